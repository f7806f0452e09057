/-
SumsLists, walked. Conditions: as each says.
-/
import Derived.Test.YtamndbeffbcppaaSmK
set_option linter.unusedVariables false
set_option linter.unusedSimpArgs false
namespace Go.Proofs.Ytamndbeffbcppaa
open Go.RowKit
attribute [local go_sem ↓] Go.wp_at_zero Go.wp_at_succ

set_option maxHeartbeats 1000000 in
theorem sumsLists_n (A : Option Addr) (n c : Nat) (l : List Nat) (w : World) (hA : Row w A (f64s l)) (hW : Wds l) (hl : l.length = n) (hn : n < 9223372036854775808) :
    Calls Try.prog 6 #[.slice A n c] w fun e w' => e = .returned (.bool true) ∧ Below w.heap.size w w' := by
  have HA := Lib.hid hA
  have HW := Lib.hid hW
  have Hl := Lib.hid hl
  clear hA hW hl
  go_enter Try.func6, Try.ntmps6
  go_wp2_with fail
  refine (awake5_any _).mono ?_
  rintro e w1 ⟨rfl, hb⟩
  have HB1 := Lib.hid hb
  clear hb
  by_cases hlg : (100 : Int) < (n : Int)
  · go_wp2_with fail
    refine (awake5_any _).mono ?_
    rintro e w2 ⟨rfl, hb⟩
    have HB2 := Lib.hid (below_nx HB1.out hb)
    clear hb
    go_wp2_with fail
    go_ret
    exact ⟨rfl, HB2.out⟩
  have hn2 : n < 1048576 := by omega
  go_wp2_with fail
  go_loopw [3, 4] (fun s a wr => ∃ q r : Nat, q ≤ n ∧ s = .float .f64 r ∧ a = .int .i64 q ∧ Is r (sumF l q) ∧ Below w.heap.size w wr) (fun _ a _ => n - (intOf a).toNat)
  case atStart => exact ⟨0, 0, Nat.zero_le _, rfl, rfl, is_zero, HB1.out⟩
  case round =>
    obtain ⟨q, r, hq, rfl, rfl, his, hbl⟩ := hrel
    have HIs := Lib.hid his
    have HBl := Lib.hid hbl
    clear his hbl
    by_cases hlt : q < n
    · obtain ⟨b, o, rfl, hc0⟩ := HA.out.get0 (k := q) (by rw [Hl.out]; exact hlt)
      have hc := cell_below hc0 HBl.out
      have HXl := Lib.hid (getD_wds HW.out q)
      obtain ⟨x, hx⟩ : ∃ x, l.getD q 0 = x := ⟨_, rfl⟩
      rw [hx] at hc HXl
      have HSt := Lib.hid (fun r' (hr' : Comes .add r x r') => sum_step HIs.out hx HXl.out hr')
      have hqc : (q : Int) < (n : Int) := by omega
      have hq1 : q + 1 ≤ 1048576 := by omega
      clear hc0 hx
      go_wp2_with fail
      refine (plus_any r x _).mono ?_
      rintro e w4 ⟨r', rfl, hr', hb⟩
      have HRes := Lib.hid (HSt.out _ hr')
      have HBl2 := Lib.hid (below_nx HBl.out hb)
      clear hr' hb hc
      go_wp2_with fail
      go_roundw
      case rel => exact ⟨q + 1, _, by omega, rfl, by go_num, HRes.out, HBl2.out⟩
      case measure => simp [intOf]; omega
    · obtain rfl : q = n := by omega
      have hqc : ¬ (q : Int) < (q : Int) := by omega
      go_wp2_with fail
      refine (sumsum_any A q c l _ (HA.out.below HBl.out) HW.out Hl.out hn2).mono ?_
      rintro e w5 ⟨r5, rfl, hr5, hb⟩
      have HR5 := Lib.hid hr5
      have HB5 := Lib.hid (below_nx HBl.out hb)
      clear hr5 hb
      go_wp2_with fail
      refine (rsame_v r5 r _ HR5.out.lt HIs.out.lt).mono ?_
      rw [HR5.out.same HIs.out]
      rintro e w6 ⟨rfl, rfl⟩
      go_wp2_with fail
      refine (great5_any A q c l _ (HA.out.below HB5.out) HW.out Hl.out hn2).mono ?_
      rintro e w7 ⟨r7, rfl, hr7, hb⟩
      have HR7 := Lib.hid hr7
      have HB7 := Lib.hid (below_nx HB5.out hb)
      clear hr7 hb
      go_wp2_with fail
      refine (rgreat5_any A q c l _ (HA.out.below HB7.out) HW.out Hl.out hn2).mono ?_
      rintro e w8 ⟨r8, rfl, hr8, hb⟩
      have HR8 := Lib.hid hr8
      have HB8 := Lib.hid (below_nx HB7.out hb)
      clear hr8 hb
      go_wp2_with fail
      refine (rsame_v r7 r8 _ HR7.out.lt HR8.out.lt).mono ?_
      rw [HR7.out.same HR8.out]
      rintro e w9 ⟨rfl, rfl⟩
      go_wp2_with fail
      refine (awake5_any _).mono ?_
      rintro e w10 ⟨rfl, hb⟩
      have HB10 := Lib.hid (below_nx HB8.out hb)
      clear hb
      go_wp2_with fail
      go_ret
      exact ⟨rfl, HB10.out⟩
theorem sumsLists_walk (A : Option Addr) (c : Nat) (l : List Nat) (w : World) (hA : Row w A (f64s l)) (hW : Wds l) (hn : l.length < 9223372036854775808) :
    Calls Try.prog 6 #[.slice A l.length c] w fun e w' => e = .returned (.bool true) ∧ Below w.heap.size w w' := sumsLists_n A _ c l w hA hW rfl hn
end Go.Proofs.Ytamndbeffbcppaa
