/-
TrsmSolves, put together. Conditions: as each says.
-/
import Derived.Test.YtcdhpoikppfjkaaZYTsPe0
import Derived.Test.YtcdhpoikppfjkaaZYTsPe1
import Derived.Test.YtcdhpoikppfjkaaZYTsPn0
import Derived.Test.YtcdhpoikppfjkaaZYTsPn1
import Derived.Test.YtcdhpoikppfjkaaZYTsPk0
import Derived.Test.YtcdhpoikppfjkaaZYTsPk1
import Derived.Test.YtcdhpoikppfjkaaZYGeN
set_option linter.unusedVariables false
set_option linter.unusedSimpArgs false
set_option linter.unnecessarySimpa false
namespace Go.Proofs.Ytcdhpoikppfjkaa
open Go.RowKit
attribute [local go_sem ↓] Go.wp_at_zero Go.wp_at_succ

theorem spB_comm (a b c d : Int) : spB a b c d = spB c d a b := by
  unfold spB
  cases decide (a ≤ b) <;> cases decide (c ≤ d) <;> cases decide (a ≤ d) <;> cases decide (c ≤ b) <;> rfl
theorem farq_own {W : World} {gm g : Nat} {lm : List Nat} (hM : Own W gm lm) (h : gm ≠ g) : FarQ W (some ⟨gm, 0, none⟩) lm g :=
  ⟨hM.row, fun p q e _ => by injection e with e; injection e with e1 e2; subst e1; subst e2; exact hM.frozen 0, fun p q e _ h9 => by injection e with e; injection e with e1 e2; omega⟩

set_option maxHeartbeats 1000000 in
theorem tsfits_bad (kd size : Int) (A : Option Addr) (n c : Nat) (o r k ld : Int) (A2 : Option Addr) (n2 c2 : Nat) (o2 r2 k2 ld2 : Int) (w : World) (h : (kd ≠ 1 ∧ kd ≠ 2) ∨ size < 1) :
    Calls Try.prog 17 #[.agg #[.int .i64 kd, .slice A n c, .int .i64 o, .int .i64 r, .int .i64 k, .int .i64 ld, .slice A2 n2 c2, .int .i64 o2, .int .i64 r2, .int .i64 k2, .int .i64 ld2], .int .i64 size] w fun e w' => e = .returned (.int .i64 1) ∧ Below w.heap.size w w' := by
  have HB := Lib.hid ((Below.refl w.heap.size w).alloc (Nat.le_refl _) (.cells #[.int .i64 kd, .slice A n c, .int .i64 o, .int .i64 r, .int .i64 k, .int .i64 ld, .slice A2 n2 c2, .int .i64 o2, .int .i64 r2, .int .i64 k2, .int .i64 ld2] 45))
  have HZ := Lib.hid (Blk.new w 45 #[.int .i64 kd, .slice A n c, .int .i64 o, .int .i64 r, .int .i64 k, .int .i64 ld, .slice A2 n2 c2, .int .i64 o2, .int .i64 r2, .int .i64 k2, .int .i64 ld2])
  by_cases hbad : kd ≠ 1 ∧ kd ≠ 2
  · obtain ⟨k1, k2'⟩ := hbad
    have t1 : (kd != 1) = true := by simp [k1]
    have t2 : (kd != 2) = true := by simp [k2']
    clear h
    obtain ⟨z0, z1, z2, z3, z4, z5, z6, z7, z8, z9, z10⟩ := cells11 HZ.out
    go_enter Try.func17, Try.ntmps17
    go_wp2_with fail
    go_ret
    exact ⟨rfl, HB.out⟩
  · have hs : size < 1 := h.resolve_left hbad
    have hk : kd = 1 ∨ kd = 2 := by omega
    clear hbad h
    rcases hk with rfl | rfl
    all_goals
      obtain ⟨z0, z1, z2, z3, z4, z5, z6, z7, z8, z9, z10⟩ := cells11 HZ.out
      go_enter Try.func17, Try.ntmps17
      go_wp2_with fail
      go_ret
      exact ⟨rfl, HB.out⟩

set_option maxRecDepth 100000 in
theorem tsm_raw0 (kd size : Int) (Am : Option Addr) (nm cm : Nat) (lm : List Nat) (mo mr mk ml : Int) (Ax : Option Addr) (nx cx : Nat) (lx : List Nat) (xo xr xk xl : Int) (one : Bool) (hv : one = false ∨ (one = true ∧ nm = 0)) (w : World) (hAm : Row w Am (f64s lm)) (hAx : Row w Ax (f64s lx)) (hWm : Wds lm) (hWx : Wds lx) (hlm : lm.length = nm) (hlx : lx.length = nx) (hnm : nm ≤ 1000) (hnx : nx ≤ 1000) (hG : greatB nm mr mk = false) (hGx : greatB nx xr xk = false) (hsz : I64 size) (hmo : I64 mo) (hmr : I64 mr) (hmk : I64 mk) (hml : I64 ml) (hxo : I64 xo) (hxr : I64 xr) (hxk : I64 xk) (hxl : I64 xl) (hm20 : mr ≤ 20 ∧ mk ≤ 20) (hx20 : xr ≤ 20 ∧ xk ≤ 20) (h : ((kd ≠ 1 ∧ kd ≠ 2) ∨ size < 1) ∨ (matB nm mo mr mk ml && matB nx xo xr xk xl) = false ∨ ((mr != mk) || (xr != mr)) = true) :
    Calls Try.prog 3 #[.int .i64 kd, .int .i64 size, mat Am nm cm mo mr mk ml, mat Ax nx cx xo xr xk xl, .bool one] w fun e w' => e = .returned (.bool true) ∧ Below w.heap.size w w' := by
  obtain ⟨E, hE⟩ : ∃ E : Int, E = if ((kd ≠ 1 ∧ kd ≠ 2) ∨ size < 1) ∨ (matB nm mo mr mk ml && matB nx xo xr xk xl) = false then 1 else if ((mr != mk) || (xr != mr)) = true then 3 else if false = true then 2 else if kd = 2 ∧ false = true then 4 else 0 := ⟨_, rfl⟩
  have hE13 : E = 1 ∨ E = 3 := by
    rw [hE]
    by_cases h1 : ((kd ≠ 1 ∧ kd ≠ 2) ∨ size < 1) ∨ (matB nm mo mr mk ml && matB nx xo xr xk xl) = false
    · rw [if_pos h1]; exact .inl rfl
    · rw [if_neg h1]
      have h2 : ((mr != mk) || (xr != mr)) = true := by
        rcases h with h | h | h
        · exact (h1 (.inl h)).elim
        · exact (h1 (.inr h)).elim
        · exact h
      rw [if_pos h2]; exact .inr rfl
  refine tsm_err0 kd size Am nm cm lm mo mr mk ml Ax nx cx lx xo xr xk xl one w hAm hAx hWm hWx hlm hlx hnm hnx hG hGx hv hmo hmr hmk hml hxo hxr hxk hxl _ _ _ _ _ _ _ rfl rfl rfl rfl rfl rfl rfl E ?_ ?_
  · rcases Int.lt_or_le kd 1 with a1 | a1
    · refine .inl ⟨decide_eq_true a1, ?_⟩
      rw [hE, if_pos (.inl (.inl ⟨by omega, by omega⟩))]
    have b1 : decide (kd < 1) = false := decide_eq_false (by omega)
    rcases Int.lt_or_le 2 kd with a2 | a2
    · refine .inr (.inl ⟨b1, decide_eq_true a2, ?_⟩)
      rw [hE, if_pos (.inl (.inl ⟨by omega, by omega⟩))]
    have b2 : decide (2 < kd) = false := decide_eq_false (by omega)
    rcases Int.lt_or_le size 1 with a3 | a3
    · refine .inr (.inr (.inl ⟨b1, b2, decide_eq_true a3, ?_⟩))
      rw [hE, if_pos (.inl (.inr a3))]
    have b3 : decide (size < 1) = false := decide_eq_false (by omega)
    have hns : ¬ ((kd ≠ 1 ∧ kd ≠ 2) ∨ size < 1) := fun h => by rcases h with h | h <;> omega
    cases a4 : matB nm mo mr mk ml
    · refine .inr (.inr (.inr (.inl ⟨b1, b2, b3, rfl, ?_⟩)))
      rw [hE, if_pos (.inr (by rw [a4]; rfl))]
    cases a5 : matB nx xo xr xk xl
    · refine .inr (.inr (.inr (.inr (.inl ⟨b1, b2, b3, rfl, rfl, ?_⟩))))
      rw [hE, if_pos (.inr (by rw [a4, a5]; rfl))]
    have hng : ¬ (((kd ≠ 1 ∧ kd ≠ 2) ∨ size < 1) ∨ (matB nm mo mr mk ml && matB nx xo xr xk xl) = false) := fun h => by
      rcases h with h | h
      · exact hns h
      · rw [a4, a5] at h; cases h
    have h2 : ((mr != mk) || (xr != mr)) = true := by
      rcases h with h | h | h
      · exact (hns h).elim
      · exact (hng (.inr h)).elim
      · exact h
    rw [if_neg hng, if_pos h2] at hE
    cases a6 : (mr != mk)
    · rw [a6, Bool.false_or] at h2
      exact .inr (.inr (.inr (.inr (.inr (.inr ⟨b1, b2, b3, rfl, rfl, rfl, h2, hE⟩)))))
    · exact .inr (.inr (.inr (.inr (.inr (.inl ⟨b1, b2, b3, rfl, rfl, rfl, hE⟩)))))
  · intro W g cg gx cx9 h1 hO hX
    have hno : (matB nm mo mr mk ml && matB nx xo xr xk xl) = true → ((mr != mk) || (xr != mr)) = false → (kd = 1 ∨ kd = 2) → 1 ≤ size → False := fun e1 e2 e3 e4 => by
      rcases h with h | h | h
      · rcases h with h | h <;> omega
      · rw [e1] at h; cases h
      · rw [e2] at h; cases h
    by_cases hks : (kd = 1 ∨ kd = 2) ∧ 1 ≤ size
    · exact ts_err kd size (some ⟨g, 0, none⟩) nm cg mo mr mk ml (some ⟨gx, 0, none⟩) nx cx9 xo xr xk xl E W false false (by omega) (by omega) hmo hmr hmk hml (by omega) hxo hxr hxk hxl (fun e1 e2 => (hno e1 e2 hks.1 hks.2).elim) (fun _ e1 e2 _ => (hno e1 e2 hks.1 hks.2).elim) hE
    · have hE1 : ((kd ≠ 1 ∧ kd ≠ 2) ∨ size < 1) ∨ (matB nm mo mr mk ml && matB nx xo xr xk xl) = false := .inl (by omega)
      rw [if_pos hE1] at hE
      subst hE
      exact tsSolve_err kd (some ⟨g, 0, none⟩) nm cg mo mr mk ml (some ⟨gx, 0, none⟩) nx cx9 xo xr xk xl size 1 W (by omega) fun W' hb => tsfits_bad kd size (some ⟨g, 0, none⟩) nm cg mo mr mk ml (some ⟨gx, 0, none⟩) nx cx9 xo xr xk xl W' (by omega)

set_option maxRecDepth 100000 in
theorem tsm_nat_0 (kd S : Nat) (hkd : kd = 1 ∨ kd = 2) (hS1 : 1 ≤ S) (hS2 : S < 9223372036854775808) (Am : Option Addr) (nm cm : Nat) (lm : List Nat) (Ax : Option Addr) (nx cx : Nat) (lx : List Nat) (o R L o2 C L2 : Nat) (one : Bool) (hv : one = false ∨ (one = true ∧ nm = 0)) (w : World) (hAm : Row w Am (f64s lm)) (hAx : Row w Ax (f64s lx)) (hWm : Wds lm) (hWx : Wds lx) (hlm : lm.length = nm) (hlx : lx.length = nx) (hnm : nm ≤ 1000) (hnx : nx ≤ 1000) (hG : greatB nm (R : Int) (R : Int) = false) (hGx : greatB nx (R : Int) (C : Int) = false) (hR : R ≤ 20) (hC : C ≤ 20) (hoI : I64 o) (hLI : I64 L) (ho2I : I64 o2) (hL2I : I64 L2) (hL1 : 1 ≤ L) (hRL : R ≤ L) (hmr : R = 0 ∨ R = 0 ∨ o + (R - 1) * L + (R - 1) < nm) (hL21 : 1 ≤ L2) (hRL2 : R ≤ L2) (hxr : R = 0 ∨ C = 0 ∨ o2 + (C - 1) * L2 + (R - 1) < nx) :
    Calls Try.prog 3 #[.int .i64 (kd : Int), .int .i64 (S : Int), mat Am nm cm o R R L, mat Ax nx cx o2 R C L2, .bool one] w fun e w' => e = .returned (.bool true) ∧ Below w.heap.size w w' := by
  have hRI : I64 (R : Int) := by unfold I64; omega
  have hCI : I64 (C : Int) := by unfold I64; omega
  have hSE : ∀ j, ∃ E F, TrS kd R (trV kd (fun i k => lm.getD (o + i + k * L) 0)) (fun p => lx.getD (o2 + p + j * L2) 0) E F := fun j => trS_exists kd R _ _ (by rcases hkd with h | h <;> simp [h])
  have b1 : matB nm (o : Int) (R : Int) (R : Int) (L : Int) = true := mat_right hL1 hRL hmr
  have b2 : matB nx (o2 : Int) (R : Int) (C : Int) (L2 : Int) = true := mat_right hL21 hRL2 hxr
  have q1 : ((R : Int) != (R : Int)) = false := by simp
  have hns : ¬ ((((kd : Int) ≠ 1 ∧ (kd : Int) ≠ 2) ∨ (S : Int) < 1) ∨ (true && true) = false) := fun h => by rcases h with (h | h) | h <;> first | omega | cases h
  cases hz : (!trHZ kd (fun i k => lm.getD (o + i + k * L) 0) R)
  · have hz2 : kd = 2 ∧ trHZ 2 (fun i k => lm.getD (o + i + k * L) 0) R = true := by
      rcases hkd with rfl | rfl
      · rw [tsHZ1] at hz; cases hz
      · refine ⟨rfl, ?_⟩
        cases h9 : trHZ 2 (fun i k => lm.getD (o + i + k * L) 0) R
        · rw [h9] at hz; cases hz
        · rfl
    exact tsm_nat0 kd S hkd hS1 Am nm cm lm Ax nx cx lx o R L o2 C L2 one w hAm hAx hWm hWx hlm hlx hnm hnx hG hGx hv hR hC hoI hLI ho2I hL2I hL1 hRL hmr hL21 hRL2 hxr false true hz 4 ⟨rfl, rfl⟩ fun W g cg gx cx9 h1 hO hX => ts_err kd S (some ⟨g, 0, none⟩) nm cg o R R L (some ⟨gx, 0, none⟩) nx cx9 o2 R C L2 4 W false true (by omega) (by omega) hoI hRI hRI hLI (by omega) ho2I hRI hCI hL2I (fun _ _ W' hb => own_away gx g cx9 cg lx lm nx nm o2 R C L2 o R R L W' (hX.nxt hb) (hO.nxt hb) hlx hlm (by omega) (by omega) ho2I hRI hCI hL2I hoI hRI hRI hLI (fun e => (h1 e.symm).elim)) (fun _ _ _ _ W' hb => by
        have h9 := tshaszero_any (kd : Int) (some ⟨g, 0, none⟩) nm cg o R L (fun i k => lm.getD (o + i + k * L) 0) (some ⟨gx, 0, none⟩) nx cx9 o2 R C L2 W' (MxC.of_row (hO.nxt hb).row hlm hmr) (by omega) hLI (by omega) hL1 hRL hmr
        rw [← tsHZ_two, hz2.2] at h9
        exact h9) (by rw [b1, b2, q1, if_neg hns]; simp [hz2.1])
  · exact tsm_ok0 kd S hkd hS1 Am nm cm lm Ax nx cx lx o R L o2 C L2 one w hAm hAx hWm hWx hlm hlx hnm hnx hG hGx hv hR hC hoI hLI ho2I hL2I hL1 hRL hmr hL21 hRL2 hxr true true hz rfl (fun j => (hSE j).choose) (fun j => (hSE j).choose_spec.choose) (fun j => (hSE j).choose_spec.choose_spec) fun W g cg gx cx9 h1 hO hX => ts_ok (tsH_far W (some ⟨g, 0, none⟩) nm cg o R L lm gx nx cx9 lx o2 C L2 (farq_own hO (fun e => h1 e.symm)) hlm (by omega) hLI (by omega) hL1 hRL hmr hoI hWm hlx (by omega) (by omega) hL2I hL21 hRL2 hxr ho2I hWx) kd hkd S hS1 hS2 (by omega) (fun j => (hSE j).choose_spec.choose_spec) (fun e => by
        subst e
        rw [← tsHZ_two]
        cases h9 : trHZ 2 (fun i k => lm.getD (o + i + k * L) 0) R
        · rfl
        · rw [h9] at hz; cases hz) hX (MxC.of_row hO.row hlm hmr)

theorem tsm_case0 (kd size : Int) (Am : Option Addr) (nm cm : Nat) (lm : List Nat) (mo mr mk ml : Int) (Ax : Option Addr) (nx cx : Nat) (lx : List Nat) (xo xr xk xl : Int) (one : Bool) (hv : one = false ∨ (one = true ∧ nm = 0)) (w : World) (hAm : Row w Am (f64s lm)) (hAx : Row w Ax (f64s lx)) (hWm : Wds lm) (hWx : Wds lx) (hlm : lm.length = nm) (hlx : lx.length = nx) (hnm : nm ≤ 1000) (hnx : nx ≤ 1000) (hG : greatB nm mr mk = false) (hGx : greatB nx xr xk = false) (hsz : I64 size) (hmo : I64 mo) (hmr : I64 mr) (hmk : I64 mk) (hml : I64 ml) (hxo : I64 xo) (hxr : I64 xr) (hxk : I64 xk) (hxl : I64 xl) (hm20 : mr ≤ 20 ∧ mk ≤ 20) (hx20 : xr ≤ 20 ∧ xk ≤ 20) :
    Calls Try.prog 3 #[.int .i64 kd, .int .i64 size, mat Am nm cm mo mr mk ml, mat Ax nx cx xo xr xk xl, .bool one] w fun e w' => e = .returned (.bool true) ∧ Below w.heap.size w w' := by
  by_cases h : ((kd ≠ 1 ∧ kd ≠ 2) ∨ size < 1) ∨ (matB nm mo mr mk ml && matB nx xo xr xk xl) = false ∨ ((mr != mk) || (xr != mr)) = true
  · exact tsm_raw0 kd size Am nm cm lm mo mr mk ml Ax nx cx lx xo xr xk xl one hv w hAm hAx hWm hWx hlm hlx hnm hnx hG hGx hsz hmo hmr hmk hml hxo hxr hxk hxl hm20 hx20 h
  · have h1 : ¬ ((kd ≠ 1 ∧ kd ≠ 2) ∨ size < 1) := fun e => h (.inl e)
    have h2 : (matB nm mo mr mk ml && matB nx xo xr xk xl) = true := by
      cases e : (matB nm mo mr mk ml && matB nx xo xr xk xl)
      · exact (h (.inr (.inl e))).elim
      · rfl
    have h3 : ((mr != mk) || (xr != mr)) = false := by
      cases e : ((mr != mk) || (xr != mr))
      · rfl
      · exact (h (.inr (.inr e))).elim
    simp only [Bool.and_eq_true] at h2
    simp at h3
    obtain ⟨g1, g2⟩ := h2
    obtain ⟨o, R, R', L, rfl, rfl, rfl, rfl, hL1, hRL, hmr2⟩ := mat_nat g1
    obtain ⟨o2, R2, C, L2, rfl, rfl, rfl, rfl, hL21, hRL2, hxr2⟩ := mat_nat g2
    have e1 : R' = R := by omega
    have e2 : R2 = R := by omega
    subst e1
    subst e2
    obtain ⟨q, rfl⟩ : ∃ q : Nat, kd = q := ⟨kd.toNat, by omega⟩
    obtain ⟨S, rfl⟩ : ∃ S : Nat, size = S := ⟨size.toNat, by omega⟩
    exact tsm_nat_0 q S (by omega) (by omega) (by unfold I64 at hsz; omega) Am nm cm lm Ax nx cx lx o _ L o2 C L2 one hv w hAm hAx hWm hWx hlm hlx hnm hnx hG hGx (by omega) (by omega) hmo hml hxo hxl hL1 hRL hmr2 hL21 hRL2 hxr2

set_option maxRecDepth 100000 in
theorem tsm_raw1 (kd size : Int) (Am : Option Addr) (nm cm : Nat) (lm : List Nat) (mo mr mk ml : Int) (Ax : Option Addr) (nx cx : Nat) (lx : List Nat) (xo xr xk xl : Int) (one : Bool) (hv : one = true ∧ 0 < nm) (w : World) (hAm : Row w Am (f64s lm)) (hAx : Row w Ax (f64s lx)) (hWm : Wds lm) (hWx : Wds lx) (hlm : lm.length = nm) (hlx : lx.length = nx) (hnm : nm ≤ 1000) (hnx : nx ≤ 1000) (hG : greatB nm mr mk = false) (hGx : greatB nx xr xk = false) (hsz : I64 size) (hmo : I64 mo) (hmr : I64 mr) (hmk : I64 mk) (hml : I64 ml) (hxo : I64 xo) (hxr : I64 xr) (hxk : I64 xk) (hxl : I64 xl) (hm20 : mr ≤ 20 ∧ mk ≤ 20) (hx20 : xr ≤ 20 ∧ xk ≤ 20) (h : ((kd ≠ 1 ∧ kd ≠ 2) ∨ size < 1) ∨ (matB nm mo mr mk ml && matB nm xo xr xk xl) = false ∨ ((mr != mk) || (xr != mr)) = true) :
    Calls Try.prog 3 #[.int .i64 kd, .int .i64 size, mat Am nm cm mo mr mk ml, mat Ax nx cx xo xr xk xl, .bool one] w fun e w' => e = .returned (.bool true) ∧ Below w.heap.size w w' := by
  obtain ⟨E, hE⟩ : ∃ E : Int, E = if ((kd ≠ 1 ∧ kd ≠ 2) ∨ size < 1) ∨ (matB nm mo mr mk ml && matB nm xo xr xk xl) = false then 1 else if ((mr != mk) || (xr != mr)) = true then 3 else if false = true then 2 else if kd = 2 ∧ false = true then 4 else 0 := ⟨_, rfl⟩
  have hE13 : E = 1 ∨ E = 3 := by
    rw [hE]
    by_cases h1 : ((kd ≠ 1 ∧ kd ≠ 2) ∨ size < 1) ∨ (matB nm mo mr mk ml && matB nm xo xr xk xl) = false
    · rw [if_pos h1]; exact .inl rfl
    · rw [if_neg h1]
      have h2 : ((mr != mk) || (xr != mr)) = true := by
        rcases h with h | h | h
        · exact (h1 (.inl h)).elim
        · exact (h1 (.inr h)).elim
        · exact h
      rw [if_pos h2]; exact .inr rfl
  refine tsm_err1 kd size Am nm cm lm mo mr mk ml Ax nx cx lx xo xr xk xl one w hAm hAx hWm hWx hlm hlx hnm hnx hG hGx hv hmo hmr hmk hml hxo hxr hxk hxl _ _ _ _ _ _ _ rfl rfl rfl rfl rfl rfl rfl E ?_ ?_
  · rcases Int.lt_or_le kd 1 with a1 | a1
    · refine .inl ⟨decide_eq_true a1, ?_⟩
      rw [hE, if_pos (.inl (.inl ⟨by omega, by omega⟩))]
    have b1 : decide (kd < 1) = false := decide_eq_false (by omega)
    rcases Int.lt_or_le 2 kd with a2 | a2
    · refine .inr (.inl ⟨b1, decide_eq_true a2, ?_⟩)
      rw [hE, if_pos (.inl (.inl ⟨by omega, by omega⟩))]
    have b2 : decide (2 < kd) = false := decide_eq_false (by omega)
    rcases Int.lt_or_le size 1 with a3 | a3
    · refine .inr (.inr (.inl ⟨b1, b2, decide_eq_true a3, ?_⟩))
      rw [hE, if_pos (.inl (.inr a3))]
    have b3 : decide (size < 1) = false := decide_eq_false (by omega)
    have hns : ¬ ((kd ≠ 1 ∧ kd ≠ 2) ∨ size < 1) := fun h => by rcases h with h | h <;> omega
    cases a4 : matB nm mo mr mk ml
    · refine .inr (.inr (.inr (.inl ⟨b1, b2, b3, rfl, ?_⟩)))
      rw [hE, if_pos (.inr (by rw [a4]; rfl))]
    cases a5 : matB nm xo xr xk xl
    · refine .inr (.inr (.inr (.inr (.inl ⟨b1, b2, b3, rfl, rfl, ?_⟩))))
      rw [hE, if_pos (.inr (by rw [a4, a5]; rfl))]
    have hng : ¬ (((kd ≠ 1 ∧ kd ≠ 2) ∨ size < 1) ∨ (matB nm mo mr mk ml && matB nm xo xr xk xl) = false) := fun h => by
      rcases h with h | h
      · exact hns h
      · rw [a4, a5] at h; cases h
    have h2 : ((mr != mk) || (xr != mr)) = true := by
      rcases h with h | h | h
      · exact (hns h).elim
      · exact (hng (.inr h)).elim
      · exact h
    rw [if_neg hng, if_pos h2] at hE
    cases a6 : (mr != mk)
    · rw [a6, Bool.false_or] at h2
      exact .inr (.inr (.inr (.inr (.inr (.inr ⟨b1, b2, b3, rfl, rfl, rfl, h2, hE⟩)))))
    · exact .inr (.inr (.inr (.inr (.inr (.inl ⟨b1, b2, b3, rfl, rfl, rfl, hE⟩)))))
  · intro W g cg hO
    have hno : (matB nm mo mr mk ml && matB nm xo xr xk xl) = true → ((mr != mk) || (xr != mr)) = false → (kd = 1 ∨ kd = 2) → 1 ≤ size → False := fun e1 e2 e3 e4 => by
      rcases h with h | h | h
      · rcases h with h | h <;> omega
      · rw [e1] at h; cases h
      · rw [e2] at h; cases h
    by_cases hks : (kd = 1 ∨ kd = 2) ∧ 1 ≤ size
    · exact ts_err kd size (some ⟨g, 0, none⟩) nm cg mo mr mk ml (some ⟨g, 0, none⟩) nm cg xo xr xk xl E W false false (by omega) (by omega) hmo hmr hmk hml (by omega) hxo hxr hxk hxl (fun e1 e2 => (hno e1 e2 hks.1 hks.2).elim) (fun _ e1 e2 _ => (hno e1 e2 hks.1 hks.2).elim) hE
    · have hE1 : ((kd ≠ 1 ∧ kd ≠ 2) ∨ size < 1) ∨ (matB nm mo mr mk ml && matB nm xo xr xk xl) = false := .inl (by omega)
      rw [if_pos hE1] at hE
      subst hE
      exact tsSolve_err kd (some ⟨g, 0, none⟩) nm cg mo mr mk ml (some ⟨g, 0, none⟩) nm cg xo xr xk xl size 1 W (by omega) fun W' hb => tsfits_bad kd size (some ⟨g, 0, none⟩) nm cg mo mr mk ml (some ⟨g, 0, none⟩) nm cg xo xr xk xl W' (by omega)

set_option maxRecDepth 100000 in
theorem tsm_nat_1 (kd S : Nat) (hkd : kd = 1 ∨ kd = 2) (hS1 : 1 ≤ S) (hS2 : S < 9223372036854775808) (Am : Option Addr) (nm cm : Nat) (lm : List Nat) (Ax : Option Addr) (nx cx : Nat) (lx : List Nat) (o R L o2 C L2 : Nat) (one : Bool) (hv : one = true ∧ 0 < nm) (w : World) (hAm : Row w Am (f64s lm)) (hAx : Row w Ax (f64s lx)) (hWm : Wds lm) (hWx : Wds lx) (hlm : lm.length = nm) (hlx : lx.length = nx) (hnm : nm ≤ 1000) (hnx : nx ≤ 1000) (hG : greatB nm (R : Int) (R : Int) = false) (hGx : greatB nx (R : Int) (C : Int) = false) (hR : R ≤ 20) (hC : C ≤ 20) (hoI : I64 o) (hLI : I64 L) (ho2I : I64 o2) (hL2I : I64 L2) (hL1 : 1 ≤ L) (hRL : R ≤ L) (hmr : R = 0 ∨ R = 0 ∨ o + (R - 1) * L + (R - 1) < nm) (hL21 : 1 ≤ L2) (hRL2 : R ≤ L2) (hxr : R = 0 ∨ C = 0 ∨ o2 + (C - 1) * L2 + (R - 1) < nm) :
    Calls Try.prog 3 #[.int .i64 (kd : Int), .int .i64 (S : Int), mat Am nm cm o R R L, mat Ax nx cx o2 R C L2, .bool one] w fun e w' => e = .returned (.bool true) ∧ Below w.heap.size w w' := by
  have hRI : I64 (R : Int) := by unfold I64; omega
  have hCI : I64 (C : Int) := by unfold I64; omega
  have hSE : ∀ j, ∃ E F, TrS kd R (trV kd (fun i k => lm.getD (o + i + k * L) 0)) (fun p => lm.getD (o2 + p + j * L2) 0) E F := fun j => trS_exists kd R _ _ (by rcases hkd with h | h <;> simp [h])
  have b1 : matB nm (o : Int) (R : Int) (R : Int) (L : Int) = true := mat_right hL1 hRL hmr
  have b2 : matB nm (o2 : Int) (R : Int) (C : Int) (L2 : Int) = true := mat_right hL21 hRL2 hxr
  have q1 : ((R : Int) != (R : Int)) = false := by simp
  have hns : ¬ ((((kd : Int) ≠ 1 ∧ (kd : Int) ≠ 2) ∨ (S : Int) < 1) ∨ (true && true) = false) := fun h => by rcases h with (h | h) | h <;> first | omega | cases h
  cases hsp : spB (msA o R R) (msB o R R L) (msA o2 R C) (msB o2 R C L2)
  · cases hz : (!trHZ kd (fun i k => lm.getD (o + i + k * L) 0) R)
    · have hz2 : kd = 2 ∧ trHZ 2 (fun i k => lm.getD (o + i + k * L) 0) R = true := by
        rcases hkd with rfl | rfl
        · rw [tsHZ1] at hz; cases hz
        · refine ⟨rfl, ?_⟩
          cases h9 : trHZ 2 (fun i k => lm.getD (o + i + k * L) 0) R
          · rw [h9] at hz; cases hz
          · rfl
      exact tsm_nat1 kd S hkd hS1 Am nm cm lm Ax nx cx lx o R L o2 C L2 one w hAm hAx hWm hWx hlm hlx hnm hnx hG hGx hv hR hC hoI hLI ho2I hL2I hL1 hRL hmr hL21 hRL2 hxr false false hz hsp 4 (.inr (.inr ⟨rfl, rfl, rfl⟩)) fun W g cg hO => ts_err kd S (some ⟨g, 0, none⟩) nm cg o R R L (some ⟨g, 0, none⟩) nm cg o2 R C L2 4 W false true (by omega) (by omega) hoI hRI hRI hLI (by omega) ho2I hRI hCI hL2I (fun _ _ W' hb => own_near g cg cg lm nm o2 R C L2 o R R L false W' (hO.nxt hb) hlm (by omega) ho2I hRI hCI hL2I hoI hRI hRI hLI (by rw [met_mm hL21 hRL2 hxr hL1 hRL hmr, spB_comm]; exact hsp)) (fun _ _ _ _ W' hb => by
        have h9 := tshaszero_any (kd : Int) (some ⟨g, 0, none⟩) nm cg o R L (fun i k => lm.getD (o + i + k * L) 0) (some ⟨g, 0, none⟩) nm cg o2 R C L2 W' (MxC.of_row (hO.nxt hb).row hlm hmr) (by omega) hLI (by omega) hL1 hRL hmr
        rw [← tsHZ_two, hz2.2] at h9
        exact h9) (by rw [b1, b2, q1, if_neg hns]; simp [hz2.1])
    · exact tsm_ok1 kd S hkd hS1 Am nm cm lm Ax nx cx lx o R L o2 C L2 one w hAm hAx hWm hWx hlm hlx hnm hnx hG hGx hv hR hC hoI hLI ho2I hL2I hL1 hRL hmr hL21 hRL2 hxr true false hz hsp rfl rfl (fun j => (hSE j).choose) (fun j => (hSE j).choose_spec.choose) (fun j => (hSE j).choose_spec.choose_spec) fun W g cg hO => ts_ok (tsH_near W cg o R L g nm cg lm o2 C L2 (sp_away hsp) hLI (by omega) hL1 hRL hmr hoI hlm (by omega) (by omega) hL2I hL21 hRL2 hxr ho2I hWm) kd hkd S hS1 hS2 (by omega) (fun j => (hSE j).choose_spec.choose_spec) (fun e => by
        subst e
        rw [← tsHZ_two]
        cases h9 : trHZ 2 (fun i k => lm.getD (o + i + k * L) 0) R
        · rfl
        · rw [h9] at hz; cases hz) hO (MxC.of_row hO.row hlm hmr)
  · cases hz : (!trHZ kd (fun i k => lm.getD (o + i + k * L) 0) R)
    · exact tsm_nat1 kd S hkd hS1 Am nm cm lm Ax nx cx lx o R L o2 C L2 one w hAm hAx hWm hWx hlm hlx hnm hnx hG hGx hv hR hC hoI hLI ho2I hL2I hL1 hRL hmr hL21 hRL2 hxr false true hz hsp 2 (.inr (.inl ⟨rfl, rfl, rfl⟩)) fun W g cg hO => ts_err kd S (some ⟨g, 0, none⟩) nm cg o R R L (some ⟨g, 0, none⟩) nm cg o2 R C L2 2 W true true (by omega) (by omega) hoI hRI hRI hLI (by omega) ho2I hRI hCI hL2I (fun _ _ W' hb => own_near g cg cg lm nm o2 R C L2 o R R L true W' (hO.nxt hb) hlm (by omega) ho2I hRI hCI hL2I hoI hRI hRI hLI (by rw [met_mm hL21 hRL2 hxr hL1 hRL hmr, spB_comm]; exact hsp)) (fun _ _ _ h9 => by cases h9) (by rw [b1, b2, q1, if_neg hns]; simp)
    · exact tsm_nat1 kd S hkd hS1 Am nm cm lm Ax nx cx lx o R L o2 C L2 one w hAm hAx hWm hWx hlm hlx hnm hnx hG hGx hv hR hC hoI hLI ho2I hL2I hL1 hRL hmr hL21 hRL2 hxr true true hz hsp 2 (.inl ⟨rfl, rfl, rfl⟩) fun W g cg hO => ts_err kd S (some ⟨g, 0, none⟩) nm cg o R R L (some ⟨g, 0, none⟩) nm cg o2 R C L2 2 W true true (by omega) (by omega) hoI hRI hRI hLI (by omega) ho2I hRI hCI hL2I (fun _ _ W' hb => own_near g cg cg lm nm o2 R C L2 o R R L true W' (hO.nxt hb) hlm (by omega) ho2I hRI hCI hL2I hoI hRI hRI hLI (by rw [met_mm hL21 hRL2 hxr hL1 hRL hmr, spB_comm]; exact hsp)) (fun _ _ _ h9 => by cases h9) (by rw [b1, b2, q1, if_neg hns]; simp)

theorem tsm_case1 (kd size : Int) (Am : Option Addr) (nm cm : Nat) (lm : List Nat) (mo mr mk ml : Int) (Ax : Option Addr) (nx cx : Nat) (lx : List Nat) (xo xr xk xl : Int) (one : Bool) (hv : one = true ∧ 0 < nm) (w : World) (hAm : Row w Am (f64s lm)) (hAx : Row w Ax (f64s lx)) (hWm : Wds lm) (hWx : Wds lx) (hlm : lm.length = nm) (hlx : lx.length = nx) (hnm : nm ≤ 1000) (hnx : nx ≤ 1000) (hG : greatB nm mr mk = false) (hGx : greatB nx xr xk = false) (hsz : I64 size) (hmo : I64 mo) (hmr : I64 mr) (hmk : I64 mk) (hml : I64 ml) (hxo : I64 xo) (hxr : I64 xr) (hxk : I64 xk) (hxl : I64 xl) (hm20 : mr ≤ 20 ∧ mk ≤ 20) (hx20 : xr ≤ 20 ∧ xk ≤ 20) :
    Calls Try.prog 3 #[.int .i64 kd, .int .i64 size, mat Am nm cm mo mr mk ml, mat Ax nx cx xo xr xk xl, .bool one] w fun e w' => e = .returned (.bool true) ∧ Below w.heap.size w w' := by
  by_cases h : ((kd ≠ 1 ∧ kd ≠ 2) ∨ size < 1) ∨ (matB nm mo mr mk ml && matB nm xo xr xk xl) = false ∨ ((mr != mk) || (xr != mr)) = true
  · exact tsm_raw1 kd size Am nm cm lm mo mr mk ml Ax nx cx lx xo xr xk xl one hv w hAm hAx hWm hWx hlm hlx hnm hnx hG hGx hsz hmo hmr hmk hml hxo hxr hxk hxl hm20 hx20 h
  · have h1 : ¬ ((kd ≠ 1 ∧ kd ≠ 2) ∨ size < 1) := fun e => h (.inl e)
    have h2 : (matB nm mo mr mk ml && matB nm xo xr xk xl) = true := by
      cases e : (matB nm mo mr mk ml && matB nm xo xr xk xl)
      · exact (h (.inr (.inl e))).elim
      · rfl
    have h3 : ((mr != mk) || (xr != mr)) = false := by
      cases e : ((mr != mk) || (xr != mr))
      · rfl
      · exact (h (.inr (.inr e))).elim
    simp only [Bool.and_eq_true] at h2
    simp at h3
    obtain ⟨g1, g2⟩ := h2
    obtain ⟨o, R, R', L, rfl, rfl, rfl, rfl, hL1, hRL, hmr2⟩ := mat_nat g1
    obtain ⟨o2, R2, C, L2, rfl, rfl, rfl, rfl, hL21, hRL2, hxr2⟩ := mat_nat g2
    have e1 : R' = R := by omega
    have e2 : R2 = R := by omega
    subst e1
    subst e2
    obtain ⟨q, rfl⟩ : ∃ q : Nat, kd = q := ⟨kd.toNat, by omega⟩
    obtain ⟨S, rfl⟩ : ∃ S : Nat, size = S := ⟨size.toNat, by omega⟩
    exact tsm_nat_1 q S (by omega) (by omega) (by unfold I64 at hsz; omega) Am nm cm lm Ax nx cx lx o _ L o2 C L2 one hv w hAm hAx hWm hWx hlm hlx hnm hnx hG hGx (by omega) (by omega) hmo hml hxo hxl hL1 hRL hmr2 hL21 hRL2 hxr2

set_option maxRecDepth 100000 in
set_option maxHeartbeats 4000000 in
theorem tsm_great (kd size : Int) (Am : Option Addr) (nm cm : Nat) (mo mr mk ml : Int) (Ax : Option Addr) (nx cx : Nat) (xo xr xk xl : Int) (one : Bool) (w : World) (h : (greatB nm mr mk || greatB nx xr xk) = true) :
    Calls Try.prog 3 #[.int .i64 kd, .int .i64 size, mat Am nm cm mo mr mk ml, mat Ax nx cx xo xr xk xl, .bool one] w fun e w' => e = .returned (.bool true) ∧ Below w.heap.size w w' := by
  have HGr := Lib.hid (fun W => great_any Am nm cm mo mr mk ml W)
  have HLx := Lib.hid (fun W => great_any Ax nx cx xo xr xk xl W)
  generalize greatB nm mr mk = b1 at *
  generalize greatB nx xr xk = b2 at *
  cases b1
  · have hb2 : b2 = true := by simpa using h
    subst hb2
    clear h
    unfold mat at *
    go_enter Try.func3, Try.ntmps3
    have Hm0 := Lib.hid ((Blk.new w 24 #[.slice Am nm cm, .int .i64 mo, .int .i64 mr, .int .i64 mk, .int .i64 ml]).alloc (.cells #[.slice Ax nx cx, .int .i64 xo, .int .i64 xr, .int .i64 xk, .int .i64 xl] 24))
    have Hx0 := Lib.hid (Blk.new_ (w.alloc (.cells #[.slice Am nm cm, .int .i64 mo, .int .i64 mr, .int .i64 mk, .int .i64 ml] 24)) 24 #[.slice Ax nx cx, .int .i64 xo, .int .i64 xr, .int .i64 xk, .int .i64 xl] (w.heap.size + 1) (by simp))
    have HB0 := Lib.hid (((Below.refl w.heap.size w).alloc (Nat.le_refl _) (.cells #[.slice Am nm cm, .int .i64 mo, .int .i64 mr, .int .i64 mk, .int .i64 ml] 24)).alloc (by simp) (.cells #[.slice Ax nx cx, .int .i64 xo, .int .i64 xr, .int .i64 xk, .int .i64 xl] 24))
    obtain ⟨m0, m1, m2, m3, m4⟩ := cells5 Hm0.out
    obtain ⟨x0, x1, x2, x3, x4⟩ := cells5 Hx0.out
    go_wp2_with fail
    refine (awake14_any _).mono ?_
    rintro e w1 ⟨rfl, hb⟩
    have Hm1 := Lib.hid (Hm0.out.nxt hb)
    have Hx1 := Lib.hid (Hx0.out.nxt hb)
    have HB1 := Lib.hid (below_nx HB0.out hb)
    clear hb
    clear m0 m1 m2 m3 m4 x0 x1 x2 x3 x4
    obtain ⟨m0, m1, m2, m3, m4⟩ := cells5 Hm1.out
    obtain ⟨x0, x1, x2, x3, x4⟩ := cells5 Hx1.out
    go_wp2_with fail
    refine (HGr.out _).mono ?_
    rintro e w2 ⟨rfl, hb⟩
    have Hm2 := Lib.hid (Hm1.out.nxt hb)
    have Hx2 := Lib.hid (Hx1.out.nxt hb)
    have HB2 := Lib.hid (below_nx HB1.out hb)
    clear hb
    clear m0 m1 m2 m3 m4 x0 x1 x2 x3 x4
    obtain ⟨m0, m1, m2, m3, m4⟩ := cells5 Hm2.out
    obtain ⟨x0, x1, x2, x3, x4⟩ := cells5 Hx2.out
    go_wp2_with fail
    refine (HLx.out _).mono ?_
    rintro e w3 ⟨rfl, hb⟩
    have Hm3 := Lib.hid (Hm2.out.nxt hb)
    have Hx3 := Lib.hid (Hx2.out.nxt hb)
    have HB3 := Lib.hid (below_nx HB2.out hb)
    clear hb
    clear m0 m1 m2 m3 m4 x0 x1 x2 x3 x4
    obtain ⟨m0, m1, m2, m3, m4⟩ := cells5 Hm3.out
    obtain ⟨x0, x1, x2, x3, x4⟩ := cells5 Hx3.out
    go_wp2_with fail
    refine (awake14_any _).mono ?_
    rintro e w5 ⟨rfl, hb⟩
    have Hm4 := Lib.hid (Hm3.out.nxt hb)
    have Hx4 := Lib.hid (Hx3.out.nxt hb)
    have HB4 := Lib.hid (below_nx HB3.out hb)
    clear hb
    clear m0 m1 m2 m3 m4 x0 x1 x2 x3 x4
    obtain ⟨m0, m1, m2, m3, m4⟩ := cells5 Hm4.out
    obtain ⟨x0, x1, x2, x3, x4⟩ := cells5 Hx4.out
    go_wp2_with fail
    go_ret
    exact ⟨rfl, HB4.out⟩
  · clear h
    unfold mat at *
    go_enter Try.func3, Try.ntmps3
    have Hm0 := Lib.hid ((Blk.new w 24 #[.slice Am nm cm, .int .i64 mo, .int .i64 mr, .int .i64 mk, .int .i64 ml]).alloc (.cells #[.slice Ax nx cx, .int .i64 xo, .int .i64 xr, .int .i64 xk, .int .i64 xl] 24))
    have Hx0 := Lib.hid (Blk.new_ (w.alloc (.cells #[.slice Am nm cm, .int .i64 mo, .int .i64 mr, .int .i64 mk, .int .i64 ml] 24)) 24 #[.slice Ax nx cx, .int .i64 xo, .int .i64 xr, .int .i64 xk, .int .i64 xl] (w.heap.size + 1) (by simp))
    have HB0 := Lib.hid (((Below.refl w.heap.size w).alloc (Nat.le_refl _) (.cells #[.slice Am nm cm, .int .i64 mo, .int .i64 mr, .int .i64 mk, .int .i64 ml] 24)).alloc (by simp) (.cells #[.slice Ax nx cx, .int .i64 xo, .int .i64 xr, .int .i64 xk, .int .i64 xl] 24))
    obtain ⟨m0, m1, m2, m3, m4⟩ := cells5 Hm0.out
    obtain ⟨x0, x1, x2, x3, x4⟩ := cells5 Hx0.out
    go_wp2_with fail
    refine (awake14_any _).mono ?_
    rintro e w1 ⟨rfl, hb⟩
    have Hm1 := Lib.hid (Hm0.out.nxt hb)
    have Hx1 := Lib.hid (Hx0.out.nxt hb)
    have HB1 := Lib.hid (below_nx HB0.out hb)
    clear hb
    clear m0 m1 m2 m3 m4 x0 x1 x2 x3 x4
    obtain ⟨m0, m1, m2, m3, m4⟩ := cells5 Hm1.out
    obtain ⟨x0, x1, x2, x3, x4⟩ := cells5 Hx1.out
    go_wp2_with fail
    refine (HGr.out _).mono ?_
    rintro e w2 ⟨rfl, hb⟩
    have Hm2 := Lib.hid (Hm1.out.nxt hb)
    have Hx2 := Lib.hid (Hx1.out.nxt hb)
    have HB2 := Lib.hid (below_nx HB1.out hb)
    clear hb
    clear m0 m1 m2 m3 m4 x0 x1 x2 x3 x4
    obtain ⟨m0, m1, m2, m3, m4⟩ := cells5 Hm2.out
    obtain ⟨x0, x1, x2, x3, x4⟩ := cells5 Hx2.out
    go_wp2_with fail
    refine (awake14_any _).mono ?_
    rintro e w5 ⟨rfl, hb⟩
    have Hm3 := Lib.hid (Hm2.out.nxt hb)
    have Hx3 := Lib.hid (Hx2.out.nxt hb)
    have HB3 := Lib.hid (below_nx HB2.out hb)
    clear hb
    clear m0 m1 m2 m3 m4 x0 x1 x2 x3 x4
    obtain ⟨m0, m1, m2, m3, m4⟩ := cells5 Hm3.out
    obtain ⟨x0, x1, x2, x3, x4⟩ := cells5 Hx3.out
    go_wp2_with fail
    go_ret
    exact ⟨rfl, HB3.out⟩

theorem tsm_walk (kd size : Int) (Am : Option Addr) (cm : Nat) (lm : List Nat) (mo mr mk ml : Int) (Ax : Option Addr) (cx : Nat) (lx : List Nat) (xo xr xk xl : Int) (one : Bool) (w : World) (hsz : I64 size) (hAm : Row w Am (f64s lm)) (hWm : Wds lm) (hmo : I64 mo) (hmr : I64 mr) (hmk : I64 mk) (hml : I64 ml) (hAx : Row w Ax (f64s lx)) (hWx : Wds lx) (hxo : I64 xo) (hxr : I64 xr) (hxk : I64 xk) (hxl : I64 xl) :
    Calls Try.prog 3 #[.int .i64 kd, .int .i64 size, mat Am lm.length cm mo mr mk ml, mat Ax lx.length cx xo xr xk xl, .bool one] w fun e w' => e = .returned (.bool true) ∧ Below w.heap.size w w' := by
  cases hG : greatB lm.length mr mk
  · cases hLx : greatB lx.length xr xk
    · have q1 : lm.length ≤ 1000 ∧ mr ≤ 20 ∧ mk ≤ 20 := by have h := hG; unfold greatB at h; simp at h; omega
      have q2 : lx.length ≤ 1000 ∧ xr ≤ 20 ∧ xk ≤ 20 := by have h := hLx; unfold greatB at h; simp at h; omega
      by_cases h1 : one = true ∧ 0 < lm.length
      · exact tsm_case1 kd size Am _ cm lm mo mr mk ml Ax _ cx lx xo xr xk xl one h1 w hAm hAx hWm hWx rfl rfl q1.1 q2.1 hG hLx hsz hmo hmr hmk hml hxo hxr hxk hxl q1.2 q2.2
      · have h0 : one = false ∨ (one = true ∧ lm.length = 0) := by
          cases one
          · exact .inl rfl
          · exact .inr ⟨rfl, by have : ¬ 0 < lm.length := fun h => h1 ⟨rfl, h⟩; omega⟩
        exact tsm_case0 kd size Am _ cm lm mo mr mk ml Ax _ cx lx xo xr xk xl one h0 w hAm hAx hWm hWx rfl rfl q1.1 q2.1 hG hLx hsz hmo hmr hmk hml hxo hxr hxk hxl q1.2 q2.2
    · exact tsm_great kd size Am _ cm mo mr mk ml Ax _ cx xo xr xk xl one w (by rw [hG, hLx]; rfl)
  · exact tsm_great kd size Am _ cm mo mr mk ml Ax _ cx xo xr xk xl one w (by rw [hG]; rfl)
end Go.Proofs.Ytcdhpoikppfjkaa
