/-
Whole numbers: halved. Conditions: as each says.
-/
import Derived.Test.YtbkbeglmfhaleaaGreatDoorW6
set_option linter.unusedVariables false
namespace Go.Proofs.YtbkbeglmfhaleaaGreatDoor
open Go.RowKit
attribute [local go_sem ↓] Go.wp_at_zero Go.wp_at_succ

theorem halved_zero (A : Option Addr) (n c : Nat) (z : Int) (w : World) (h : Wh w A n c z) :
    Calls Tryz.prog 89 #[.agg #[.bool (ng z), .slice A n c], .int .i64 0] w (RetW z w) := by
  have H := Lib.hid h
  clear h
  go_enter Tryz.func89, Tryz.ntmps89
  go_wp2_with fail
  exact bodyPost_ret (v := .agg #[.bool (ng z), .slice A n c]) (by simp [results, Tryz.results89, go_sem]) rfl
    (RetW_def _ _ _ _ _ _ _ rfl (H.out.below (((Below.refl _ _).alloc (Nat.le_refl _) _).alloc (by simp) _)) (((Below.refl _ _).alloc (Nat.le_refl _) _).alloc (by simp) _))

set_option maxHeartbeats 1000000 in
theorem halved_any (A : Option Addr) (n c : Nat) (z y : Int) (v : Nat) (w : World) (h : Wh w A n c z) (hn : n ≤ 137438953472) (hz : z = y * 2 ^ v) (hy : y ≠ 0) (hv : v ≤ 8796093022208) (hv0 : 0 < v) :
    Calls Tryz.prog 89 #[.agg #[.bool (ng z), .slice A n c], .int .i64 (v : Int)] w (RetW y w) := by
  have hza : z.natAbs = y.natAbs * 2 ^ v := by rw [hz, Int.natAbs_mul, Int.natAbs_pow]; rfl
  have hng : ng z = ng y := by
    have hp : (0 : Int) < 2 ^ v := by have := Nat.two_pow_pos v; simpa using (Int.ofNat_lt.2 this)
    unfold ng; rw [hz]
    congr 1
    rw [eq_iff_iff]
    constructor
    · intro hl
      rcases Int.lt_or_le y 0 with h1 | h1
      · exact h1
      · have := Int.mul_nonneg h1 (Int.le_of_lt hp); omega
    · intro hl; exact Int.mul_neg_of_neg_of_pos hl hp
  have hblz : bl z.natAbs = bl y.natAbs + v := by rw [hza]; exact bl_mul (by omega)
  obtain ⟨W, hW⟩ : ∃ W, (bl y.natAbs + 63) / 64 = W := ⟨_, rfl⟩
  have hblb : bl z.natAbs ≤ 64 * 137438953472 := bl_wl z _ (by rw [← h.1]; exact hn)
  have hWb : W ≤ 1099511627776 := by omega
  have hW1 : ((bl z.natAbs : Int) - (v : Int) + 64 - 1) / 64 = (W : Int) := by omega
  have hroom := bl_room hW
  have hmk := fun V => run_make W hWb V
  have hy1 : 1 ≤ bl y.natAbs := by unfold bl; rw [if_neg (by omega)]; omega
  have hWp : 0 < W := by omega
  have ht : ((v : Int) == 0) = false := by simp; omega
  have hi : ∀ i, i < W → v + i * 64 ≤ 140737488355328 := by intro i hi; omega
  have H := Lib.hid h
  have HZA := Lib.hid hza
  have HNG := Lib.hid hng
  have HR := Lib.hid hroom
  have HI := Lib.hid hi
  have HY1 := Lib.hid hy1
  clear h hza hng hroom hz hW hblz hy hi
  go_enter Tryz.func89, Tryz.ntmps89
  go_wp2_with fail
  refine (width_any A n c z _ (H.out.below (((Below.refl _ _).alloc (Nat.le_refl _) _).alloc (by simp) _)) (by omega)).mono ?_
  rintro e w1 ⟨rfl, hb⟩
  have hB := (((Blk.new w 35 #[.bool (ng z), .slice A n c]).alloc (.cells #[.bool false, .slice none 0 0] 35)).below hb (by simp <;> omega))
  have hB2 := ((Blk.new_ (w.alloc (.cells #[.bool (ng z), .slice A n c] 35)) 35 #[.bool false, .slice none 0 0] (w.heap.size + 1) (by simp)).below hb (by simp))
  have hbl : Below (w.heap.size + 2) ((w.alloc (.cells #[.bool (ng z), .slice A n c] 35)).alloc (.cells #[.bool false, .slice none 0 0] 35)) w1 := hb.mono (by simp)
  have hsz : w.heap.size + 2 ≤ w1.heap.size := by have := hb.size; simpa using this
  have HB := Lib.hid hB
  have HB2 := Lib.hid hB2
  have HBl := Lib.hid hbl
  have HWb := Lib.hid hWb
  have hst := HalfW.start y.natAbs W
  have HST := Lib.hid hst
  clear hb hB hB2 hbl hWb hst
  go_wp2_with fail
  rw [hW1]
  clear hW1
  go_loopw [20] (fun i wr => ∃ (k : Nat) (M : List Nat), k ≤ W ∧ i = .int .i64 k ∧ HalfW y.natAbs W k M ∧ Blk wr w1.heap.size 58 (u64s M).toArray ∧ Blk wr w.heap.size 35 #[.bool (ng z), .slice A n c] ∧ Blk wr (w.heap.size + 1) 35 #[.bool false, .slice none 0 0] ∧ Below (w.heap.size + 2) ((w.alloc (.cells #[.bool (ng z), .slice A n c] 35)).alloc (.cells #[.bool false, .slice none 0 0] 35)) wr) (fun i _ => W - (intOf i).toNat)
  case atStart => exact ⟨0, _, Nat.zero_le _, rfl, HST.out, Blk.new _ _ _, HB.out.alloc _, HB2.out.alloc _, HBl.out.alloc hsz _⟩
  case round =>
    obtain ⟨k, M, hk, rfl, hh, hBM, hB, hB2, hbl⟩ := hrel
    have hWb2 := HWb.out
    by_cases hlt : k < W
    · have hkw : (k : Int) < (W : Int) := by omega
      have hki := HI.out k hlt
      have hb0 : Below w.heap.size w wr := (((Below.refl _ _).alloc (Nat.le_refl _) _).alloc (by simp) _).trans (hbl.mono (by omega))
      have hstep := hh.step hlt
      have hwin := win_half (i := k) HZA.out
      have HStep := Lib.hid hstep
      have HWin := Lib.hid hwin
      have HBM := Lib.hid hBM
      have HB := Lib.hid hB
      have HB2 := Lib.hid hB2
      have HBl := Lib.hid hbl
      have HB0 := Lib.hid hb0
      have HL := Lib.hid hh.2.1
      obtain ⟨k0, k1, _, _⟩ := cells2 hB
      clear hstep hwin hBM hB hB2 hbl hb0 hh
      go_wp2_with fail
      rw [show ((v : Int) + (k : Int) * 64) = ((v + k * 64 : Nat) : Int) by omega]
      refine (window_any A n c z _ _ (H.out.below HB0.out) (by omega) hki).mono ?_
      rintro e w2 ⟨rfl, hb⟩
      rw [HWin.out]
      generalize y.natAbs / Q ^ k % Q = d at *
      have hBM2 := HBM.out.below hb HBM.out.lt
      have hget := hBM2.cell k
      rw [u64s_arr M k (by rw [HL.out]; exact hlt)] at hget
      have hfr := hBM2.frozen k
      have hset := hBM2.set_ k (.int .u64 (d : Int))
      rw [u64s_set] at hset
      have HSet := Lib.hid hset
      have hlt1 := HB.out.lt
      have hlt2 := HB2.out.lt
      have HX := Lib.hid ((HB.out.below hb HB.out.lt).other (p := ⟨w1.heap.size, k, none⟩) (by show w.heap.size ≠ w1.heap.size; omega) (.int .u64 (d : Int)))
      have HX2 := Lib.hid ((HB2.out.below hb HB2.out.lt).other (p := ⟨w1.heap.size, k, none⟩) (by show w.heap.size + 1 ≠ w1.heap.size; omega) (.int .u64 (d : Int)))
      have HY := Lib.hid ((HBl.out.trans (hb.mono (by omega))).setCell (p := ⟨w1.heap.size, k, none⟩) (by show w.heap.size + 2 ≤ w1.heap.size; omega) (.int .u64 (d : Int)))
      clear hBM2 hset hb
      go_wp2_with fail
      go_roundw
      case rel => exact ⟨k + 1, M.set k d, by omega, by go_num, HStep.out, HSet.out, HX.out, HX2.out, HY.out⟩
      case measure => simp [intOf]; omega
    · obtain rfl : k = W := by omega
      have hkw : ¬ (k : Int) < (k : Int) := by omega
      have hv := hh.done HR.out
      have hd := hh.1
      have hl := hh.2.1
      have htr := fun V (hr : Row V (some ⟨w1.heap.size, 0, none⟩) (u64s M)) => trim_any w1.heap.size 0 k k M V hl.symm (Nat.le_refl _) (by omega) hd hr
      have HTr := Lib.hid (htr wr.drew (row_blk hBM.drew))
      have HW := Lib.hid (Wh.trimmed (z := y) hd (row_blk hBM) hv)
      obtain ⟨k0, k1, _, _⟩ := cells2 hB
      obtain ⟨r0, r1, f0, f1⟩ := cells2 hB2
      have HB2 := Lib.hid hB2
      have HBl := Lib.hid hbl
      generalize tl M = r at *
      clear hv hd hl htr hBM hB hB2 hbl hh
      go_wp2_with fail
      go_region_held3 (fun w' => w'.cell? ⟨w.heap.size, 0, none⟩ = some (.bool (ng z)) ∧ w'.frozen? ⟨w.heap.size + 1, 0, none⟩ = false) (go_keep)
        ((go_at_call 73; refine HTr.out.mono ?_; rintro e w2 ⟨rfl, rfl⟩; skip))
      go_wp2_with fail
      have hB3 := (HB2.out.store2 (.bool (ng z)) (.slice (some ⟨w1.heap.size, 0, none⟩) r r))
      obtain ⟨h0, h1, _⟩ := cells2 hB3
      exact bodyPost_ret (v := .agg #[.bool (ng z), .slice (some ⟨w1.heap.size, 0, none⟩) r r]) (by simp [results, Tryz.results89, go_sem, h0, h1]) rfl
        (RetW_def _ _ _ _ _ _ _ HNG.out (HW.out.store2 HB2.out _ _) (((((Below.refl _ _).alloc (Nat.le_refl _) _).alloc (by simp) _).trans (HBl.out.mono (by omega))).setCell (by simp) _ |>.setCell (by simp) _ |>.drew))
end Go.Proofs.YtbkbeglmfhaleaaGreatDoor
