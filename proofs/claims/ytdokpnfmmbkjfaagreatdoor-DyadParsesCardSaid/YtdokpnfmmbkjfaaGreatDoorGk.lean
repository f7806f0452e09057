/-
Whole numbers: evens, halved. Conditions: as each says.
-/
import Derived.Test.YtdokpnfmmbkjfaaGreatDoorZW5
set_option linter.unusedVariables false
namespace Go.Proofs.YtdokpnfmmbkjfaaGreatDoor
open Go.RowKit
attribute [local go_sem ↓] Go.wp_at_zero Go.wp_at_succ

theorem nz_any (d : Nat) (w : World) : Calls Tryz.prog 124 #[.int .u64 d] w fun e w' => e = .returned (.bool ((d : Int) != 0)) ∧ w = w' := by
  go_enter Tryz.func124, Tryz.ntmps124
  go_wp2_with fail
  go_ret
  exact ⟨rfl, rfl⟩

set_option maxHeartbeats 400000 in
theorem indexNz_any (A : Option Addr) (n c i0 : Nat) (l : List Nat) (w : World) (hn : l.length = n) (hnb : n ≤ 1099511627776) (hr : Row w A (u64s l)) (hi : i0 < n) (hz : ∀ j, j < i0 → l.getD j 0 = 0) (h0 : l.getD i0 0 ≠ 0) :
    Calls Tryz.prog 123 #[.slice A n c, .func (.func 124) #[] #[]] w fun e w' => e = .returned (.int .i64 i0) ∧ w = w' := by
  have HN := Lib.hid hn
  have HR := Lib.hid hr
  have HZ := Lib.hid hz
  have H0 := Lib.hid h0
  clear hn hr hz h0
  go_enter Tryz.func123, Tryz.ntmps123
  go_wp2_with fail
  go_loop [8] (fun i => ∃ k : Nat, k ≤ i0 ∧ i = .int .i64 k) (fun i => n - (intOf i).toNat)
  case atStart => exact ⟨0, Nat.zero_le _, rfl⟩
  case round =>
    obtain ⟨k, hk, rfl⟩ := hrel
    have hlt : k < l.length := by rw [HN.out]; omega
    obtain ⟨b, o, rfl, _, hcell⟩ := HR.out.at_ (u64s_get l k hlt)
    have hget := getD_of hlt
    generalize l[k] = d at *
    have hkn : (k : Int) < (n : Int) := by omega
    by_cases he : k = i0
    · have ht : ((d : Int) != 0) = true := by
        have := H0.out; rw [← he, hget] at this; simp; omega
      have HE := Lib.hid he
      clear he hget
      go_wp2_with (go_at_call 124; refine (nz_any d _).mono ?_; rintro e w' ⟨rfl, rfl⟩)
      go_ret
      exact ⟨ret_i (by rw [HE.out]), rfl⟩
    · have ht : ((d : Int) != 0) = false := by
        have := HZ.out k (by omega); rw [hget] at this; simp; omega
      clear hget
      go_wp2_with (go_at_call 124; refine (nz_any d _).mono ?_; rintro e w' ⟨rfl, rfl⟩)
      go_round
      case rel => exact ⟨k + 1, by omega, by go_num⟩
      case measure => simp [intOf]; omega

theorem ev_low {x m v j : Nat} (hx : x = m * 2 ^ v) (hj : j < v / 64) : x / Q ^ j % Q = 0 := by
  have e : 2 ^ v = 2 ^ (v - 64 * (j + 1)) * Q * Q ^ j := by
    rw [Nat.mul_assoc, Nat.mul_comm Q, ← Nat.pow_succ, Q_pow, ← Nat.pow_mul, ← Nat.pow_add]; congr 1; omega
  rw [hx, e, ← Nat.mul_assoc, Nat.mul_div_cancel _ (Nat.pow_pos (by unfold Q; omega)), ← Nat.mul_assoc, Nat.mul_mod_left]
theorem ev_at {x m v : Nat} (hx : x = m * 2 ^ v) : x / Q ^ (v / 64) % Q = m % 2 ^ (64 - v % 64) * 2 ^ (v % 64) := by
  have e : 2 ^ v = 2 ^ (v % 64) * Q ^ (v / 64) := by
    rw [Q_pow, ← Nat.pow_mul, ← Nat.pow_add]; congr 1; omega
  have e2 : Q = 2 ^ (64 - v % 64) * 2 ^ (v % 64) := by
    rw [← Nat.pow_add, show 64 - v % 64 + v % 64 = 64 by omega]; rfl
  rw [hx, e, ← Nat.mul_assoc, Nat.mul_div_cancel _ (Nat.pow_pos (by unfold Q; omega)), e2, Nat.mul_mod_mul_right]
theorem odd_mod {m k : Nat} (hm : m % 2 = 1) (hk : 1 ≤ k) : m % 2 ^ k % 2 = 1 := by
  have : 2 ∣ 2 ^ k := by
    rw [show k = (k - 1) + 1 by omega, Nat.pow_succ]; exact Nat.dvd_mul_left _ _
  rw [Nat.mod_mod_of_dvd _ this, hm]

theorem evens_any (A : Option Addr) (n c : Nat) (z : Int) (m v : Nat) (w : World) (h : Wh w A n c z) (hn : n ≤ 1099511627776) (hz : z.natAbs = m * 2 ^ v) (hm : m % 2 = 1) (hg : Glob w) :
    Calls Tryz.prog 95 #[.agg #[.bool (ng z), .slice A n c]] w fun e w' => e = .returned (.int .i64 v) ∧ Below w.heap.size w w' := by
  obtain ⟨h1, h2, hr⟩ := h
  have hat := ev_at hz
  have hodd := odd_mod hm (show 1 ≤ 64 - v % 64 by omega)
  have hp := Nat.two_pow_pos (v % 64)
  have hne : z.natAbs / Q ^ (v / 64) % Q ≠ 0 := by rw [hat]; exact Nat.mul_ne_zero (by omega) (by omega)
  have hin : v / 64 < n := by
    rcases Nat.lt_or_ge (v / 64) n with hl | hl
    · exact hl
    · exact absurd (dig_beyond z n _ h1 hl) hne
  have hlt : v / 64 < (dig z).length := by unfold wl at h1; omega
  have hd := dig_get z _ hlt
  rw [hat] at hd
  have hdq := (dig_lt z).get _ hlt
  rw [Q_val] at hdq
  have hidx := fun W (hr : Row W A (u64s (dig z))) => indexNz_any A n c (v / 64) (dig z) W (by unfold wl at h1; omega) hn hr hin (fun j hj => by
    have hjl : j < (dig z).length := by omega
    rw [getD_of hjl, dig_get z j hjl, ev_low hz hj]) (by rw [getD_of hlt, dig_get z _ hlt]; exact hne)
  obtain ⟨b, o, rfl, _, hcell⟩ := hr.at_ (u64s_get (dig z) _ hlt)
  generalize (dig z)[v / 64] = d at *
  have htz := fun W (hg : Glob W) => tz_any d _ _ W hdq hd hodd hg
  have hv1 : v / 64 * 64 + v % 64 = v := by omega
  have hvb : v / 64 ≤ 1099511627776 := by omega
  have hvs : v % 64 < 64 := by omega
  generalize v / 64 = q at *
  generalize v % 64 = s at *
  have HI := Lib.hid (hidx _ (hr.below ((Below.refl _ _).alloc (Nat.le_refl _) (.cells #[.bool (ng z), .slice (some ⟨b, o, none⟩) n c] 35))))
  have HT := Lib.hid (htz _ (hg.below ((Below.refl _ _).alloc (Nat.le_refl _) (.cells #[.bool (ng z), .slice (some ⟨b, o, none⟩) n c] 35))))
  have HV := Lib.hid hv1
  clear hidx htz hr hat hodd hne hd hdq hz hm hg hv1 h1 hlt
  go_enter Tryz.func95, Tryz.ntmps95
  go_wp2_with fail
  refine HI.out.mono ?_
  rintro e w1 ⟨rfl, rfl⟩
  have e3 : (q : Int) < (n : Int) := by omega
  go_wp2_with fail
  refine HT.out.mono ?_
  rintro e w1 ⟨rfl, rfl⟩
  go_wp2_with fail
  go_ret
  exact ⟨ret_i (by rw [← HV.out]; omega), (Below.refl _ _).alloc (Nat.le_refl _) _⟩

/-- What halved has laid after k words. -/
def Half (x W k : Nat) (M : List Nat) : Prop := Digs Q M ∧ M.length = W ∧ ofd Q (M.take k) = x % Q ^ k
theorem Half.start (x W : Nat) : Half x W 0 (List.replicate W 0) := ⟨Digs.replicate (by unfold Q; omega) _, by simp, by simp [ofd, Nat.mod_one]⟩
theorem Half.step {x W k : Nat} {M : List Nat} (h : Half x W k M) (hk : k < W) : Half x W (k + 1) (M.set k (x / Q ^ k % Q)) := by
  obtain ⟨h1, h2, h3⟩ := h
  refine ⟨h1.set k (Nat.mod_lt _ (by unfold Q; omega)), by simpa using h2, ?_⟩
  rw [ofd_take_set Q M k _ (by omega), h3, Nat.mod_pow_succ]
theorem Half.done {x W : Nat} {M : List Nat} (h : Half x W W M) (hx : x < Q ^ W) : ofd Q M = x := by
  obtain ⟨h1, h2, h3⟩ := h
  rw [ofd_take_all _ _ _ (by omega), Nat.mod_eq_of_lt hx] at h3
  exact h3
theorem win_half {x y v i : Nat} (h : x = y * 2 ^ v) : win x (v + i * 64) = y / Q ^ i % Q := by
  unfold win
  rw [Nat.pow_add, ← Nat.div_div_eq_div_mul, h, Nat.mul_div_cancel _ (Nat.two_pow_pos v), Nat.mul_comm i, Nat.pow_mul]
  rfl
theorem bl_mul {m v : Nat} (h : m ≠ 0) : bl (m * 2 ^ v) = bl m + v := by
  obtain ⟨b1, b2⟩ := bl_bounds h
  have hb : 0 < bl m := by unfold bl; rw [if_neg h]; omega
  have := bl_unique (n := m * 2 ^ v) (k := bl m - 1 + v) (by rw [Nat.pow_add]; exact Nat.mul_le_mul_right _ b1) (by
    rw [show bl m - 1 + v + 1 = bl m + v by omega, Nat.pow_add]; exact Nat.mul_lt_mul_of_pos_right b2 (Nat.two_pow_pos v))
  rw [this]; omega
theorem bl_room {m W : Nat} (hW : (bl m + 63) / 64 = W) : m < Q ^ W := by
  by_cases h : m = 0
  · rw [h]; exact Nat.pow_pos (by unfold Q; omega)
  · obtain ⟨b1, b2⟩ := bl_bounds h
    rw [Q_pow, ← Nat.pow_mul]
    exact Nat.lt_of_lt_of_le b2 (Nat.pow_le_pow_right (by omega) (by omega))
end Go.Proofs.YtdokpnfmmbkjfaaGreatDoor
/-
Whole numbers: halved. Conditions: as each says.
-/
set_option linter.unusedVariables false
namespace Go.Proofs.YtdokpnfmmbkjfaaGreatDoor
open Go.RowKit
attribute [local go_sem ↓] Go.wp_at_zero Go.wp_at_succ

theorem halved_zero (A : Option Addr) (n c : Nat) (z : Int) (w : World) (h : Wh w A n c z) :
    Calls Tryz.prog 96 #[.agg #[.bool (ng z), .slice A n c], .int .i64 0] w (RetW z w) := by
  have H := Lib.hid h
  clear h
  go_enter Tryz.func96, Tryz.ntmps96
  go_wp2_with fail
  exact bodyPost_ret (v := .agg #[.bool (ng z), .slice A n c]) (by simp [results, Tryz.results96, go_sem]) rfl
    (RetW_def _ _ _ _ _ _ _ rfl (H.out.below (((Below.refl _ _).alloc (Nat.le_refl _) _).alloc (by simp) _)) (((Below.refl _ _).alloc (Nat.le_refl _) _).alloc (by simp) _))

set_option maxHeartbeats 1000000 in
theorem halved_any (A : Option Addr) (n c : Nat) (z y : Int) (v : Nat) (w : World) (h : Wh w A n c z) (hn : n ≤ 137438953472) (hz : z = y * 2 ^ v) (hy : y ≠ 0) (hv : v ≤ 8796093022208) (hv0 : 0 < v) :
    Calls Tryz.prog 96 #[.agg #[.bool (ng z), .slice A n c], .int .i64 (v : Int)] w (RetW y w) := by
  have hza : z.natAbs = y.natAbs * 2 ^ v := by rw [hz, Int.natAbs_mul, Int.natAbs_pow]; rfl
  have hng : ng z = ng y := by
    have hp : (0 : Int) < 2 ^ v := by have := Nat.two_pow_pos v; simpa using (Int.ofNat_lt.2 this)
    unfold ng; rw [hz]
    congr 1
    rw [eq_iff_iff]
    constructor
    · intro hl
      rcases Int.lt_or_le y 0 with h1 | h1
      · exact h1
      · have := Int.mul_nonneg h1 (Int.le_of_lt hp); omega
    · intro hl; exact Int.mul_neg_of_neg_of_pos hl hp
  have hblz : bl z.natAbs = bl y.natAbs + v := by rw [hza]; exact bl_mul (by omega)
  obtain ⟨W, hW⟩ : ∃ W, (bl y.natAbs + 63) / 64 = W := ⟨_, rfl⟩
  have hblb : bl z.natAbs ≤ 64 * 137438953472 := bl_wl z _ (by rw [← h.1]; exact hn)
  have hWb : W ≤ 1099511627776 := by omega
  have hW1 : ((bl z.natAbs : Int) - (v : Int) + 64 - 1) / 64 = (W : Int) := by omega
  have hroom := bl_room hW
  have hmk := fun V => run_make W hWb V
  have hy1 : 1 ≤ bl y.natAbs := by unfold bl; rw [if_neg (by omega)]; omega
  have hWp : 0 < W := by omega
  have ht : ((v : Int) == 0) = false := by simp; omega
  have hi : ∀ i, i < W → v + i * 64 ≤ 140737488355328 := by intro i hi; omega
  have H := Lib.hid h
  have HZA := Lib.hid hza
  have HNG := Lib.hid hng
  have HR := Lib.hid hroom
  have HI := Lib.hid hi
  have HY1 := Lib.hid hy1
  clear h hza hng hroom hz hW hblz hy hi
  go_enter Tryz.func96, Tryz.ntmps96
  go_wp2_with fail
  refine (width_any A n c z _ (H.out.below (((Below.refl _ _).alloc (Nat.le_refl _) _).alloc (by simp) _)) (by omega)).mono ?_
  rintro e w1 ⟨rfl, hb⟩
  have hB := (((Blk.new w 35 #[.bool (ng z), .slice A n c]).alloc (.cells #[.bool false, .slice none 0 0] 35)).below hb (by simp <;> omega))
  have hB2 := ((Blk.new_ (w.alloc (.cells #[.bool (ng z), .slice A n c] 35)) 35 #[.bool false, .slice none 0 0] (w.heap.size + 1) (by simp)).below hb (by simp))
  have hbl : Below (w.heap.size + 2) ((w.alloc (.cells #[.bool (ng z), .slice A n c] 35)).alloc (.cells #[.bool false, .slice none 0 0] 35)) w1 := hb.mono (by simp)
  have hsz : w.heap.size + 2 ≤ w1.heap.size := by have := hb.size; simpa using this
  have HB := Lib.hid hB
  have HB2 := Lib.hid hB2
  have HBl := Lib.hid hbl
  have HWb := Lib.hid hWb
  have hst := Half.start y.natAbs W
  have HST := Lib.hid hst
  clear hb hB hB2 hbl hWb hst
  go_wp2_with fail
  rw [hW1]
  clear hW1
  go_loopw [20] (fun i wr => ∃ (k : Nat) (M : List Nat), k ≤ W ∧ i = .int .i64 k ∧ Half y.natAbs W k M ∧ Blk wr w1.heap.size 62 (u64s M).toArray ∧ Blk wr w.heap.size 35 #[.bool (ng z), .slice A n c] ∧ Blk wr (w.heap.size + 1) 35 #[.bool false, .slice none 0 0] ∧ Below (w.heap.size + 2) ((w.alloc (.cells #[.bool (ng z), .slice A n c] 35)).alloc (.cells #[.bool false, .slice none 0 0] 35)) wr) (fun i _ => W - (intOf i).toNat)
  case atStart => exact ⟨0, _, Nat.zero_le _, rfl, HST.out, Blk.new _ _ _, HB.out.alloc _, HB2.out.alloc _, HBl.out.alloc hsz _⟩
  case round =>
    obtain ⟨k, M, hk, rfl, hh, hBM, hB, hB2, hbl⟩ := hrel
    have hWb2 := HWb.out
    by_cases hlt : k < W
    · have hkw : (k : Int) < (W : Int) := by omega
      have hki := HI.out k hlt
      have hb0 : Below w.heap.size w wr := (((Below.refl _ _).alloc (Nat.le_refl _) _).alloc (by simp) _).trans (hbl.mono (by omega))
      have hstep := hh.step hlt
      have hwin := win_half (i := k) HZA.out
      have HStep := Lib.hid hstep
      have HWin := Lib.hid hwin
      have HBM := Lib.hid hBM
      have HB := Lib.hid hB
      have HB2 := Lib.hid hB2
      have HBl := Lib.hid hbl
      have HB0 := Lib.hid hb0
      have HL := Lib.hid hh.2.1
      obtain ⟨k0, k1, _, _⟩ := cells2 hB
      clear hstep hwin hBM hB hB2 hbl hb0 hh
      go_wp2_with fail
      rw [show ((v : Int) + (k : Int) * 64) = ((v + k * 64 : Nat) : Int) by omega]
      refine (window_any A n c z _ _ (H.out.below HB0.out) (by omega) hki).mono ?_
      rintro e w2 ⟨rfl, hb⟩
      rw [HWin.out]
      generalize y.natAbs / Q ^ k % Q = d at *
      have hBM2 := HBM.out.below hb HBM.out.lt
      have hget := hBM2.cell k
      rw [u64s_arr M k (by rw [HL.out]; exact hlt)] at hget
      have hfr := hBM2.frozen k
      have hset := hBM2.set_ k (.int .u64 (d : Int))
      rw [u64s_set] at hset
      have HSet := Lib.hid hset
      have hlt1 := HB.out.lt
      have hlt2 := HB2.out.lt
      have HX := Lib.hid ((HB.out.below hb HB.out.lt).other (p := ⟨w1.heap.size, k, none⟩) (by show w.heap.size ≠ w1.heap.size; omega) (.int .u64 (d : Int)))
      have HX2 := Lib.hid ((HB2.out.below hb HB2.out.lt).other (p := ⟨w1.heap.size, k, none⟩) (by show w.heap.size + 1 ≠ w1.heap.size; omega) (.int .u64 (d : Int)))
      have HY := Lib.hid ((HBl.out.trans (hb.mono (by omega))).setCell (p := ⟨w1.heap.size, k, none⟩) (by show w.heap.size + 2 ≤ w1.heap.size; omega) (.int .u64 (d : Int)))
      clear hBM2 hset hb
      go_wp2_with fail
      go_roundw
      case rel => exact ⟨k + 1, M.set k d, by omega, by go_num, HStep.out, HSet.out, HX.out, HX2.out, HY.out⟩
      case measure => simp [intOf]; omega
    · obtain rfl : k = W := by omega
      have hkw : ¬ (k : Int) < (k : Int) := by omega
      have hv := hh.done HR.out
      have hd := hh.1
      have hl := hh.2.1
      have htr := fun V (hr : Row V (some ⟨w1.heap.size, 0, none⟩) (u64s M)) => trim_any w1.heap.size 0 k k M V hl.symm (Nat.le_refl _) (by omega) hd hr
      have HTr := Lib.hid (htr wr.drew (row_blk hBM.drew))
      have HW := Lib.hid (Wh.trimmed (z := y) hd (row_blk hBM) hv)
      obtain ⟨k0, k1, _, _⟩ := cells2 hB
      obtain ⟨r0, r1, f0, f1⟩ := cells2 hB2
      have HB2 := Lib.hid hB2
      have HBl := Lib.hid hbl
      generalize tl M = r at *
      clear hv hd hl htr hBM hB hB2 hbl hh
      go_wp2_with fail
      go_region_held3 (fun w' => w'.cell? ⟨w.heap.size, 0, none⟩ = some (.bool (ng z)) ∧ w'.frozen? ⟨w.heap.size + 1, 0, none⟩ = false) (go_keep)
        ((go_at_call 80; refine HTr.out.mono ?_; rintro e w2 ⟨rfl, rfl⟩; skip))
      go_wp2_with fail
      have hB3 := (HB2.out.store2 (.bool (ng z)) (.slice (some ⟨w1.heap.size, 0, none⟩) r r))
      obtain ⟨h0, h1, _⟩ := cells2 hB3
      exact bodyPost_ret (v := .agg #[.bool (ng z), .slice (some ⟨w1.heap.size, 0, none⟩) r r]) (by simp [results, Tryz.results96, go_sem, h0, h1]) rfl
        (RetW_def _ _ _ _ _ _ _ HNG.out (HW.out.store2 HB2.out _ _) (((((Below.refl _ _).alloc (Nat.le_refl _) _).alloc (by simp) _).trans (HBl.out.mono (by omega))).setCell (by simp) _ |>.setCell (by simp) _ |>.drew))
end Go.Proofs.YtdokpnfmmbkjfaaGreatDoor
/-
canonical: m times 2^e. Conditions: as each says.
-/
set_option linter.unusedVariables false
namespace Go.Proofs.YtdokpnfmmbkjfaaGreatDoor
open Go.RowKit
attribute [local go_sem ↓] Go.wp_at_zero Go.wp_at_succ

theorem held4 {w W w' : World} {b0 o0 b1 o1 b2 o2 b3 o3 : Nat} {v0 v1 v2 v3 : Value} (h : W.cell? ⟨b0, o0, none⟩ = some v0 ∧ W.cell? ⟨b1, o1, none⟩ = some v1 ∧ W.cell? ⟨b2, o2, none⟩ = some v2 ∧ W.cell? ⟨b3, o3, none⟩ = some v3 ∧ Below w.heap.size w W) (hb : Below W.heap.size W w') :
    w'.cell? ⟨b0, o0, none⟩ = some v0 ∧ w'.cell? ⟨b1, o1, none⟩ = some v1 ∧ w'.cell? ⟨b2, o2, none⟩ = some v2 ∧ w'.cell? ⟨b3, o3, none⟩ = some v3 ∧ Below w.heap.size w w' :=
  ⟨cell_below h.1 hb, cell_below h.2.1 hb, cell_below h.2.2.1 hb, cell_below h.2.2.2.1 hb, h.2.2.2.2.trans (hb.mono h.2.2.2.2.size)⟩
theorem held4s {w W : World} {b0 o0 b1 o1 b2 o2 b3 o3 : Nat} {v0 v1 v2 v3 : Value} (h : W.cell? ⟨b0, o0, none⟩ = some v0 ∧ W.cell? ⟨b1, o1, none⟩ = some v1 ∧ W.cell? ⟨b2, o2, none⟩ = some v2 ∧ W.cell? ⟨b3, o3, none⟩ = some v3 ∧ Below w.heap.size w W)
    (g : Nat) (h0 : b0 ≠ g) (h1 : b1 ≠ g) (h2 : b2 ≠ g) (h3 : b3 ≠ g) (hg : w.heap.size ≤ g) (x0 x1 x2 x3 : Value) :
    ((((W.setCell ⟨g, 0, none⟩ x0).setCell ⟨g, 1, none⟩ x1).setCell ⟨g, 2, none⟩ x2).setCell ⟨g, 3, none⟩ x3).cell? ⟨b0, o0, none⟩ = some v0 ∧
    ((((W.setCell ⟨g, 0, none⟩ x0).setCell ⟨g, 1, none⟩ x1).setCell ⟨g, 2, none⟩ x2).setCell ⟨g, 3, none⟩ x3).cell? ⟨b1, o1, none⟩ = some v1 ∧
    ((((W.setCell ⟨g, 0, none⟩ x0).setCell ⟨g, 1, none⟩ x1).setCell ⟨g, 2, none⟩ x2).setCell ⟨g, 3, none⟩ x3).cell? ⟨b2, o2, none⟩ = some v2 ∧
    ((((W.setCell ⟨g, 0, none⟩ x0).setCell ⟨g, 1, none⟩ x1).setCell ⟨g, 2, none⟩ x2).setCell ⟨g, 3, none⟩ x3).cell? ⟨b3, o3, none⟩ = some v3 ∧
    Below w.heap.size w ((((W.setCell ⟨g, 0, none⟩ x0).setCell ⟨g, 1, none⟩ x1).setCell ⟨g, 2, none⟩ x2).setCell ⟨g, 3, none⟩ x3) := by
  refine ⟨?_, ?_, ?_, ?_, ((((h.2.2.2.2.setCell hg _).setCell hg _).setCell hg _).setCell hg _)⟩
  · rw [cell_set h0, cell_set h0, cell_set h0, cell_set h0]; exact h.1
  · rw [cell_set h1, cell_set h1, cell_set h1, cell_set h1]; exact h.2.1
  · rw [cell_set h2, cell_set h2, cell_set h2, cell_set h2]; exact h.2.2.1
  · rw [cell_set h3, cell_set h3, cell_set h3, cell_set h3]; exact h.2.2.2.1
theorem Blk.next {w w' : World} {g : Nat} {t : TypeId} {cs : Array Value} (h : Blk w g t cs) (hb : Below w.heap.size w w') : Blk w' g t cs := h.below hb h.lt

theorem halved_all (A : Option Addr) (n c : Nat) (z y : Int) (v : Nat) (w : World) (h : Wh w A n c z) (hn : n ≤ 137438953472) (hz : z = y * 2 ^ v) (hy : y ≠ 0) (hv : v ≤ 8796093022208) :
    Calls Tryz.prog 96 #[.agg #[.bool (ng z), .slice A n c], .int .i64 (v : Int)] w (RetW y w) := by
  rcases Nat.eq_zero_or_pos v with rfl | h0
  · have : z = y := by simpa using hz
    subst this
    exact halved_zero A n c z w h
  · exact halved_any A n c z y v w h hn hz hy hv h0
theorem odd_part (z : Int) (h : z ≠ 0) : ∃ (y : Int) (v : Nat), z = y * 2 ^ v ∧ y % 2 = 1 ∧ z.natAbs = y.natAbs * 2 ^ v ∧ y.natAbs % 2 = 1 ∧ y ≠ 0 := by
  have key : ∀ n : Nat, n ≠ 0 → ∃ k v, n = k * 2 ^ v ∧ k % 2 = 1 := by
    intro n
    induction n using Nat.strongRecOn with
    | ind n ih =>
      intro h0
      by_cases ho : n % 2 = 1
      · exact ⟨n, 0, by simp, ho⟩
      · obtain ⟨k, v, e, hk⟩ := ih (n / 2) (by omega) (by omega)
        exact ⟨k, v + 1, by rw [Nat.pow_succ, ← Nat.mul_assoc, ← e]; omega, hk⟩
  obtain ⟨k, v, e, hk⟩ := key z.natAbs (by omega)
  have hc : ((2 ^ v : Nat) : Int) = 2 ^ v := by simp
  rcases Int.lt_or_le z 0 with hz | hz
  · refine ⟨-(k : Int), v, ?_, by omega, by rw [Int.natAbs_neg, Int.natAbs_natCast]; exact e, by omega, by omega⟩
    rw [Int.neg_mul, ← hc, ← Int.natCast_mul, ← e]; omega
  · refine ⟨(k : Int), v, ?_, by omega, by rw [Int.natAbs_natCast]; exact e, by omega, by omega⟩
    rw [← hc, ← Int.natCast_mul, ← e]; omega
theorem dy_parts {z y e : Int} {v : Nat} (hz : z = y * 2 ^ v) (hy : y % 2 = 1) : mant (dy z e) = y ∧ expo (dy z e) = e + v := by
  rw [hz, dy_pow]
  exact ⟨mant_dy _ _ hy, expo_dy _ _ hy⟩
theorem RetD_def (d : Dyadic) (w : World) (a a' : Bool) (A A' : Option Addr) (n c n' c' : Nat) (m e : Int) (w' : World) (hm : mant d = m) (he : expo d = e) (ha : a = ng m) (ha' : a' = ng e) (h : Wh w' A n c m) (h' : Wh w' A' n' c' e) (hb : Below w.heap.size w w') :
    RetD d w (.returned (.agg #[.bool a, .slice A n c, .bool a', .slice A' n' c'])) w' := by
  subst ha ha' hm he; exact ⟨A, n, c, A', n', c', rfl, ⟨h, h'⟩, hb⟩

set_option maxHeartbeats 1000000 in
theorem canonical_any (A : Option Addr) (n c : Nat) (m : Int) (A' : Option Addr) (n' c' : Nat) (e : Int) (w : World) (h : Wh w A n c m) (h' : Wh w A' n' c' e) (hn : n ≤ 137438953472) (hn' : n' ≤ 137438953472) (hg : Glob w) :
    Calls Tryz.prog 57 #[.agg #[.bool (ng m), .slice A n c], .agg #[.bool (ng e), .slice A' n' c']] w (RetD (dy m e) w) := by
  have H := Lib.hid h
  have H' := Lib.hid h'
  have HG := Lib.hid hg
  have HN := Lib.hid h.1
  have HN' := Lib.hid h'.1
  by_cases h0 : m = 0
  · have HZ := Lib.hid h0
    have hs : m.sign = 0 := by rw [h0]; rfl
    have HS := Lib.hid hs
    clear h h' hg h0 hs
    go_enter Tryz.func57, Tryz.ntmps57
    go_wp2_with fail
    refine (sign_any A n c m _ HN.out).mono ?_
    rintro e1 w1 ⟨rfl, hb⟩
    rw [HS.out]
    obtain ⟨hc, hf⟩ := bcell hb
    have hB := (Blk.new_ ((w.alloc (.cells #[.bool (ng m), .slice A n c] 35)).alloc (.cells #[.bool (ng e), .slice A' n' c'] 35)) 37 #[.bool false, .slice none 0 0, .bool false, .slice none 0 0] (w.heap.size + 1 + 1) (by simp)).next hb
    obtain ⟨r0, r1, r2, r3, f0, f1, f2, f3⟩ := cells4 hB
    have HB := Lib.hid hB
    have HBl := Lib.hid (((((Below.refl w.heap.size w).alloc (Nat.le_refl _) (.cells #[.bool (ng m), .slice A n c] 35)).alloc (by simp) (.cells #[.bool (ng e), .slice A' n' c'] 35)).alloc (by simp <;> omega) (.cells #[.bool false, .slice none 0 0, .bool false, .slice none 0 0] 37)).trans (hb.mono (by simp <;> omega)))
    clear hb hc hf hB
    go_wp2_with fail
    obtain ⟨k0, k1, k2, k3, _⟩ := cells4 (HB.out.store4 (.bool false) (.slice none 0 0) (.bool false) (.slice none 0 0))
    exact bodyPost_ret (v := .agg #[.bool false, .slice none 0 0, .bool false, .slice none 0 0]) (by simp [results, Tryz.results57, go_sem, k0, k1, k2, k3]) rfl
      (RetD_def _ _ _ _ _ _ _ _ _ _ 0 0 _ (by rw [HZ.out]; rfl) (by rw [HZ.out]; rfl) rfl rfl (Wh.zero _ _ _) (Wh.zero _ _ _) ((((HBl.out.setCell (by simp <;> omega) _).setCell (by simp <;> omega) _).setCell (by simp <;> omega) _).setCell (by simp <;> omega) _))
  · obtain ⟨y, v, hz, hy, hza, hya, hy0⟩ := odd_part m h0
    have hs : (m.sign == 0) = false := by
      rcases Int.lt_or_gt_of_ne h0 with hl | hl
      · rw [Int.sign_eq_neg_one_of_neg hl]; rfl
      · rw [Int.sign_eq_one_of_pos hl]; rfl
    have hvb : v ≤ 8796093022208 := by
      have h1 := bl_wl m _ (by rw [← h.1]; exact hn)
      rw [hza, bl_mul (by omega)] at h1
      omega
    obtain ⟨p1, p2⟩ := dy_parts (e := e) hz hy
    have hwv : wl ((v : Nat) : Int) ≤ 137438953472 := by
      refine Nat.le_trans ((wl_le _ 1).2 ?_) (by omega)
      rw [Nat.pow_one, Q_val]; omega
    have HH := Lib.hid (fun W (hb : Below w.heap.size w W) => halved_all A n c m y v W (h.below hb) hn hz hy0 hvb)
    have HE := Lib.hid (fun W (hb : Below w.heap.size w W) => evens_any A n c m y.natAbs v W (h.below hb) (by omega) hza hya (hg.below hb))
    have HP := Lib.hid (fun (B : Option Addr) (k d : Nat) W (hb : Below w.heap.size w W) (hw : Wh W B k d ((v : Nat) : Int)) => plus_any A' n' c' e B k d (v : Int) W (h'.below hb) hw (by rw [← h'.1]; exact hn') hwv)
    have HO := Lib.hid (fun W => wholeOf_any (v : Int) W (by omega) (by omega))
    have HM := Lib.hid p1
    have HX := Lib.hid p2
    clear h h' hg h0 hz hy hza hya hy0 p1 p2 hwv
    go_enter Tryz.func57, Tryz.ntmps57
    go_wp2_with fail
    refine (sign_any A n c m _ HN.out).mono ?_
    rintro e1 w1 ⟨rfl, hb⟩
    have hB := (Blk.new_ ((w.alloc (.cells #[.bool (ng m), .slice A n c] 35)).alloc (.cells #[.bool (ng e), .slice A' n' c'] 35)) 37 #[.bool false, .slice none 0 0, .bool false, .slice none 0 0] (w.heap.size + 1 + 1) (by simp)).next hb
    have hC := (((Blk.new w 35 #[.bool (ng m), .slice A n c]).alloc (.cells #[.bool (ng e), .slice A' n' c'] 35)).alloc (.cells #[.bool false, .slice none 0 0, .bool false, .slice none 0 0] 37)).next hb
    have hD := ((Blk.new_ (w.alloc (.cells #[.bool (ng m), .slice A n c] 35)) 35 #[.bool (ng e), .slice A' n' c'] (w.heap.size + 1) (by simp)).alloc (.cells #[.bool false, .slice none 0 0, .bool false, .slice none 0 0] 37)).next hb
    have hBl : Below w.heap.size w w1 := ((((Below.refl w.heap.size w).alloc (Nat.le_refl _) (.cells #[.bool (ng m), .slice A n c] 35)).alloc (by simp) (.cells #[.bool (ng e), .slice A' n' c'] 35)).alloc (by simp <;> omega) (.cells #[.bool false, .slice none 0 0, .bool false, .slice none 0 0] 37)).trans (hb.mono (by simp <;> omega))
    obtain ⟨a0, a1, _⟩ := cells2 hC
    have HB := Lib.hid hB
    have HC := Lib.hid hC
    have HD := Lib.hid hD
    have HBl := Lib.hid hBl
    clear hb hB hC hD hBl
    go_wp2_with fail
    refine (HE.out _ HBl.out).mono ?_
    rintro e1 w2 ⟨rfl, hb⟩
    have hB := HB.out.next hb
    obtain ⟨c0, c1, _⟩ := cells2 (HC.out.next hb)
    obtain ⟨d0, d1, _⟩ := cells2 (HD.out.next hb)
    have HBl2 := Lib.hid (HBl.out.trans (hb.mono HBl.out.size))
    have hBd : Blk w2.drew (w.heap.size + 1 + 1) 37 #[.bool false, .slice none 0 0, .bool false, .slice none 0 0] := hB
    clear hb hB HB HC HD HBl a0 a1
    go_wp2_with fail
    go_region_held3 (fun w' => w'.cell? ⟨w.heap.size, 0, none⟩ = some (.bool (ng m)) ∧ w'.cell? ⟨w.heap.size, 1, none⟩ = some (.slice A n c) ∧ w'.cell? ⟨w.heap.size + 1, 0, none⟩ = some (.bool (ng e)) ∧ w'.cell? ⟨w.heap.size + 1, 1, none⟩ = some (.slice A' n' c') ∧ Below w.heap.size w w')
      (first | exact ⟨c0, c1, d0, d1, HBl2.out.drew⟩ | exact held4 ‹_ ∧ _ ∧ _ ∧ _ ∧ Below w.heap.size w _› hbP | exact held4 ‹_ ∧ _ ∧ _ ∧ _ ∧ Below w.heap.size w _› hbH | exact held4 ‹_ ∧ _ ∧ _ ∧ _ ∧ Below w.heap.size w _› hbO | exact held4s ‹_ ∧ _ ∧ _ ∧ _ ∧ Below w.heap.size w _› _ (by omega) (by omega) (by omega) (by omega) (by omega) _ _ _ _)
      (first
        | (go_at_call 96; refine (HH.out _ (‹_ ∧ _ ∧ _ ∧ _ ∧ Below w.heap.size w _›).2.2.2.2).mono ?_; rintro e1 wH ⟨BH, kH, dH, rfl, hWH, hbH⟩; have hBH := Blk.next (by assumption) hbH; obtain ⟨r0, r1, r2, r3, f0, f1, f2, f3⟩ := cells4 hBH; skip)
        | (go_at_call 58; refine (HO.out _).mono ?_; rintro e1 wO ⟨BO, kO, dO, rfl, hWO, hbO⟩; have hBO := Blk.next (by assumption) hbO; obtain ⟨r0, r1, r2, r3, f0, f1, f2, f3⟩ := cells4 hBO; skip)
        | (go_at_call 56; refine (HP.out _ _ _ _ (‹_ ∧ _ ∧ _ ∧ _ ∧ Below w.heap.size w _›).2.2.2.2 (by first | exact hWO | exact hWO.below hbH)).mono ?_; rintro e1 wP ⟨BP, kP, dP, rfl, hWP, hbP⟩; have hBP := Blk.next (by assumption) hbP; obtain ⟨r0, r1, r2, r3, f0, f1, f2, f3⟩ := cells4 hBP; skip))
    all_goals
      go_wp2_with fail
      clear r0 r1 r2 r3 f0 f1 f2 f3
    all_goals first
      |
      (obtain ⟨k0, k1, k2, k3, _⟩ := cells4 (Blk.store4 hBP (.bool (ng y)) (.slice BH kH dH) (.bool (ng (e + (v : Int)))) (.slice BP kP dP))
       exact bodyPost_ret (v := .agg #[.bool (ng y), .slice BH kH dH, .bool (ng (e + (v : Int))), .slice BP kP dP]) (by simp [results, Tryz.results57, go_sem, k0, k1, k2, k3]) rfl
         (RetD_def _ _ _ _ _ _ _ _ _ _ y (e + (v : Int)) _ HM.out HX.out rfl rfl (Wh.store4 (hWH.below hbP) hBP _ _ _ _) (Wh.store4 hWP hBP _ _ _ _) (‹_ ∧ _ ∧ _ ∧ _ ∧ Below w.heap.size w _›).2.2.2.2))
      |
      (obtain ⟨k0, k1, k2, k3, _⟩ := cells4 (Blk.store4 hBP (.bool (ng y)) (.slice BH kH dH) (.bool (ng (e + (v : Int)))) (.slice BP kP dP))
       exact bodyPost_ret (v := .agg #[.bool (ng y), .slice BH kH dH, .bool (ng (e + (v : Int))), .slice BP kP dP]) (by simp [results, Tryz.results57, go_sem, k0, k1, k2, k3]) rfl
         (RetD_def _ _ _ _ _ _ _ _ _ _ y (e + (v : Int)) _ HM.out HX.out rfl rfl (Wh.store4 ((hWH.below hbO).below hbP) hBP _ _ _ _) (Wh.store4 hWP hBP _ _ _ _) (‹_ ∧ _ ∧ _ ∧ _ ∧ Below w.heap.size w _›).2.2.2.2))
      |
      (obtain ⟨k0, k1, k2, k3, _⟩ := cells4 (Blk.store4 hBH (.bool (ng y)) (.slice BH kH dH) (.bool (ng (e + (v : Int)))) (.slice BP kP dP))
       exact bodyPost_ret (v := .agg #[.bool (ng y), .slice BH kH dH, .bool (ng (e + (v : Int))), .slice BP kP dP]) (by simp [results, Tryz.results57, go_sem, k0, k1, k2, k3]) rfl
         (RetD_def _ _ _ _ _ _ _ _ _ _ y (e + (v : Int)) _ HM.out HX.out rfl rfl (Wh.store4 hWH hBH _ _ _ _) (Wh.store4 (hWP.below hbH) hBH _ _ _ _) (‹_ ∧ _ ∧ _ ∧ _ ∧ Below w.heap.size w _›).2.2.2.2))
end Go.Proofs.YtdokpnfmmbkjfaaGreatDoor
