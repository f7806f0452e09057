/-
The law's awake returns true: the document's examples. Conditions: none.
-/
import Derived.Test.YtgghpidfkcbbdaaNumH
import Derived.Test.YtgghpidfkcbbdaaHex
set_option linter.unusedVariables false
namespace Go.Proofs.Ytgghpidfkcbbdaa
open Go.RowKit

theorem awake_exp : expOf 4604930618986332160 = -1 := by decide +kernel
theorem awake_hex : hexL 4607182418800017408 = [51, 102, 102, 48, 48, 48, 48, 48, 48, 48, 48, 48, 48, 48, 48, 48] := by decide +kernel
theorem awake_same : sameB (Fl.scale 4613937818241073152 (-1075)) (Fl.scale 4607182418800017408 (-1073)) = true := by decide +kernel

theorem awake_any (w : World) : Calls Try.prog 9 #[] w fun e w' => e = .returned (.bool true) ∧ Below w.heap.size w w' := by
  go_enter Try.func9, Try.ntmps9
  go_wp2_with fail
  refine (exp_any 4604930618986332160 _ (by omega)).mono ?_
  rintro e w1 ⟨rfl, h1⟩
  rw [awake_exp]
  go_wp2_with fail
  refine (hex_any 4607182418800017408 _ (by omega)).mono ?_
  rintro e w2 ⟨rfl, h2⟩
  rw [awake_hex]
  go_wp2_with fail
  refine (scale_any 4613937818241073152 (-1075) _ (by omega)).mono ?_
  rintro e w3 ⟨rfl, h3⟩
  go_wp2_with fail
  refine (scale_any 4607182418800017408 (-1073) _ (by omega)).mono ?_
  rintro e w4 ⟨rfl, h4⟩
  go_wp2_with fail
  refine (same_any _ _ _).mono ?_
  rintro e w5 ⟨rfl, rfl⟩
  rw [awake_same]
  go_wp2_with fail
  go_ret
  exact ⟨rfl, ((h1.trans (h2.mono h1.size)).trans (h3.mono (Nat.le_trans h1.size h2.size))).trans (h4.mono (Nat.le_trans h1.size (Nat.le_trans h2.size h3.size)))⟩

theorem numScales_walk (b : Nat) (k : Int) (w : World) (hb : b < 18446744073709551616) (hk : (Lit.int .i64 k).wf = true) :
    Calls Try.prog 4 #[.float .f64 b, .int .i64 k] w fun e w' => e = .returned (.bool true) ∧ Below w.heap.size w w' := by
  have hs : sameB (Fl.scale b k) (Fl.scale b k) = true := by simp [sameB]
  have h1s : sameB (Fl.scale 4607182418800017408 k) (Fl.scale 4607182418800017408 k) = true := by simp [sameB]
  have HS := Lib.hid hs
  have H1 := Lib.hid h1s
  have HW := Lib.hid (Fl.scale_lt hb k)
  have HW1 := Lib.hid (Fl.scale_lt (b := 4607182418800017408) (by omega) k)
  clear hs h1s
  go_enter Try.func4, Try.ntmps4
  go_wp2_with fail
  refine (awake_any _).mono ?_
  rintro e w1 ⟨rfl, b1⟩
  go_wp2_with fail
  refine (scale_any b k _ hb).mono ?_
  rintro e w2 ⟨rfl, b2⟩
  go_wp2_with fail
  refine (rscale_any b k _ hb).mono ?_
  rintro e w' ⟨rfl, rfl⟩
  go_wp2_with fail
  refine (rsame_any _ _ _ HW.out HW.out).mono ?_
  rintro e w' ⟨rfl, rfl⟩
  rw [HS.out]
  go_wp2_with fail
  refine (two_any k _).mono ?_
  rintro e w3 ⟨rfl, b3⟩
  go_wp2_with fail
  refine (rscale_any 4607182418800017408 k _ (by omega)).mono ?_
  rintro e w' ⟨rfl, rfl⟩
  go_wp2_with fail
  refine (rsame_any _ _ _ HW1.out HW1.out).mono ?_
  rintro e w' ⟨rfl, rfl⟩
  rw [H1.out]
  go_wp2_with fail
  refine (awake_any _).mono ?_
  rintro e w4 ⟨rfl, b4⟩
  go_wp2_with fail
  go_ret
  exact ⟨rfl, ((b1.trans (b2.mono b1.size)).trans (b3.mono (Nat.le_trans b1.size b2.size))).trans (b4.mono (Nat.le_trans b1.size (Nat.le_trans b2.size b3.size)))⟩
end Go.Proofs.Ytgghpidfkcbbdaa
