/-
Trsv: the document's Solve, what its walk holds. Conditions: as each says.
-/
import Derived.Test.YtlhdcajamempoaaZTrG
set_option linter.unusedVariables false
set_option linter.unusedSimpArgs false
set_option linter.unnecessarySimpa false
namespace Go.Proofs.Ytlhdcajamempoaa
open Go.RowKit
attribute [local go_sem ↓] Go.wp_at_zero Go.wp_at_succ

/-- What a walk of the document's Solve holds: a list of its own whose numbers are these. -/
def RtW (w : World) (R gT N cT : Nat) (T : List Nat) (g : Nat) (Z : Nat → Nat) (wr : World) : Prop :=
  ∃ y, (y.length = R ∧ ∀ p, p < R → Is (y.getD p 0) (Z p)) ∧ Own wr g y ∧ Row wr (some ⟨gT, 0, none⟩) (f64s T) ∧ Blk wr w.heap.size 47 #[.int .i64 R, .int .i64 R, .slice (some ⟨gT, 0, none⟩) N cT] ∧ Below w.heap.size w wr ∧ w.heap.size + 1 ≤ g
theorem RtW.congr {w wr : World} {R gT N cT : Nat} {T : List Nat} {g : Nat} {Z Z' : Nat → Nat} (h : RtW w R gT N cT T g Z wr) (e : ∀ p, p < R → Z p = Z' p) : RtW w R gT N cT T g Z' wr := by
  obtain ⟨y, ⟨h1, h2⟩, h3⟩ := h
  exact ⟨y, ⟨h1, fun p hp => by rw [← e p hp]; exact h2 p hp⟩, h3⟩
theorem RtW.nxt {w wr W : World} {R gT N cT : Nat} {T : List Nat} {g : Nat} {Z : Nat → Nat} (h : RtW w R gT N cT T g Z wr) (hb : Below wr.heap.size wr W) : RtW w R gT N cT T g Z W := by
  obtain ⟨y, h1, h2, h3, h4, h5, h6⟩ := h
  exact ⟨y, h1, h2.nxt hb, h3.below hb, h4.nxt hb, below_nx h5 hb, h6⟩
theorem RtW.put {w wr W : World} {R gT N cT : Nat} {T : List Nat} {g : Nat} {Z Z' : Nat → Nat} {q r z : Nat} (h : RtW w R gT N cT T g Z wr) (hgT : N ≠ 0 → gT < w.heap.size) (hTl : T.length = N) (hq : q < R) (hb : Below wr.heap.size wr W) (hr : Is r z) (hZ : ∀ p, p < R → (if p = q then z else Z p) = Z' p) :
    RtW w R gT N cT T g Z' (W.setCell ⟨g, q, none⟩ (.float .f64 r)) := by
  obtain ⟨y, ⟨h1, h2⟩, h3, h4, h5, h6, h7⟩ := h
  have hql : q < y.length := by rw [h1]; exact hq
  refine ⟨y.set q r, ⟨by rw [List.length_set]; exact h1, fun p hp => ?_⟩, (h3.nxt hb).set_ _ _ hql, ?_, (h5.nxt hb).other (by show w.heap.size ≠ g; omega) _, (below_nx h6 hb).setCell (p := ⟨g, q, none⟩) (by show w.heap.size ≤ g; omega) _, h7⟩
  · rw [← hZ p hp]
    by_cases e : p = q
    · rw [if_pos e, e, getD_set_self hql]; exact hr
    · rw [if_neg e, getD_set_ne _ (fun e2 => e e2.symm)]; exact h2 p hp
  · rcases Nat.eq_zero_or_pos N with e | e
    · have : T = [] := List.length_eq_zero_iff.1 (by omega)
      subst this
      exact .inl rfl
    · have hg := hgT (by omega)
      rcases h4.below hb with h | ⟨b, o, e1, hc⟩
      · exact .inl h
      · refine .inr ⟨b, o, e1, fun i v hi => ?_⟩
        injection e1 with e1; injection e1 with e2 _
        exact (cell_set (by show b ≠ g; omega) _).trans (hc i v hi)
/-- What the document's Solve answers, if no number on the diagonal is 0. -/
def RtSd (R : Nat) (F : Nat → Nat) (w : World) (e : Ending) (w' : World) : Prop :=
  ∃ g c y, e = .returned (.tuple #[.slice (some ⟨g, 0, none⟩) R c, .bool true]) ∧ (y.length = R ∧ ∀ p, p < R → Is (y.getD p 0) (F p)) ∧ Own w' g y ∧ w.heap.size ≤ g ∧ Below w.heap.size w w'
/-- And if one is. -/
def RtZd (R : Nat) (w : World) (e : Ending) (w' : World) : Prop := ∃ g c, e = .returned (.tuple #[.slice (some ⟨g, 0, none⟩) R c, .bool false]) ∧ Below w.heap.size w w'

set_option maxRecDepth 100000 in
set_option maxHeartbeats 4000000 in
theorem rtsolvez2 (R gT N cT : Nat) (T : List Nat) (a : Addr) (c : Nat) (l : List Nat) (w : World) (hT : Row w (some ⟨gT, 0, none⟩) (f64s T)) (hTl : T.length = N) (hN : R * R = N) (hNb : N < 1048576) (hgT : N ≠ 0 → gT < w.heap.size) (hRb : R ≤ 1000) (hWT : Wds T) (hA : Row w (some a) (f64s l)) (hl : l.length = R) (hW : Wds l) (hz : trHZ 2 (fun i k => T.getD (i * R + k) 0) R = true) :
    Calls Try.prog 22 #[.int .i64 2, tbl R R gT N cT, .slice (some a) R c] w (RtZd R w) := by
  obtain ⟨i0, hi, hz0, hz1, hz2⟩ := fi0
  have HAt := Lib.hid (fun i k (hi : i < R) (hk : k < R) W (h : Row W (some ⟨gT, 0, none⟩) (f64s T)) => trat_any R R gT N cT T i k W h hTl hNb (by rw [← hN]; exact tab_lt hi hk))
  have Hf := Lib.hid (fun i k => trV_lt (kd := 2) (f := fun i k => T.getD (i * R + k) 0) (i := i) (k := k) (fun i k => tr_wds hWT _))
  have HZr := Lib.hid hz
  have HA := Lib.hid hA
  have Hl := Lib.hid hl
  have HT := Lib.hid hT
  have HWl := Lib.hid hW
  obtain ⟨f, hf⟩ : ∃ f : Nat → Nat → Nat, f = fun i k => T.getD (i * R + k) 0 := ⟨_, rfl⟩
  have HfE := Lib.hid (fun i k => congrFun (congrFun hf i) k)
  rw [← hf] at Hf HZr
  clear hT hgT hTl hN hNb hWT hA hW hz hf
  unfold tbl at *
  go_enter Try.func22, Try.ntmps22
  have HZ0 := Lib.hid (Blk.new w 47 #[.int .i64 R, .int .i64 R, .slice (some ⟨gT, 0, none⟩) N cT])
  obtain ⟨t0, t1, t2⟩ := cells3v HZ0.out
  go_wp2_with (at_builtin; refine wpList_append_own _ rfl _ _ 24 rfl (w.heap.size + 1) 28 i0 (.float .f64 0) 1 8 Try.underlying24 hi hz0 hz1 hz2 rfl (by decide) _ _ _ rfl (own_empty_ _ _ (by simp)) a R c (f64s l) rfl (by simp [f64s, hl]) ?c1 (one_cells l) ?c3 ?c4 ?c5 ?_)
  case c1 => exact row_add (HA.out.below (((Below.refl _ _).alloc (Nat.le_refl _) _).alloc (by simp) _))
  case c3 => unfold maxLen; omega
  case c4 => omega
  case c5 => simp
  intro v' w' hown hgrow hne
  obtain ⟨g, c', rfl, hg, hc, hm, ho⟩ := own_of hown hne hl.symm
  have hO : Only (w.heap.size + 1) ((w.alloc (.cells #[.int .i64 R, .int .i64 R, .slice (some ⟨gT, 0, none⟩) N cT] 47)).alloc (.cells #[] 28)) w' := hgrow
  have HB := Lib.hid ((((Below.refl w.heap.size w).alloc (Nat.le_refl _) (.cells #[.int .i64 R, .int .i64 R, .slice (some ⟨gT, 0, none⟩) N cT] 47)).alloc (by simp) (.cells #[] 28)).grown hgrow (by simp; omega) (fun k hk => by simp [Value.ownBlock] at hk; omega))
  have HZ := Lib.hid (hO.blk (by omega) ((Blk.new w 47 #[.int .i64 R, .int .i64 R, .slice (some ⟨gT, 0, none⟩) N cT]).alloc (.cells #[] 28)))
  have HW0 := Lib.hid (show RtW w R gT N cT T g (fun p => l.getD p 0) w' from ⟨l, ⟨hl, fun p hp => Is.refl (tr_wds HWl.out p)⟩, ho, HT.out.below HB.out, HZ.out, HB.out, hg⟩)
  clear ho hgrow hown hO hl hg hc hm hne t0 t1 t2 HZ0 HB HZ HA HT HWl Hl
  go_wp2_with fail
  go_loopw [10] (fun x wr => ∃ i : Nat, i ≤ R ∧ x = .int .i64 (i : Int) ∧ Hid (trHZ 2 f i = false ∧ RtW w R gT N cT T g (fun p => l.getD p 0) wr)) (fun x _ => R - (intOf x).toNat)
  case atStart => exact ⟨0, Nat.zero_le _, rfl, Lib.hid ⟨rfl, HW0.out⟩⟩
  case round =>
    obtain ⟨i, hi1, rfl, HH⟩ := hrel
    by_cases hlt : i < R
    · have har : (i : Int) < (R : Int) := by omega
      have ha1 : i + 1 ≤ 1048576 := by omega
      obtain ⟨y, hy, hyO, hyT, hyZ, hyB, hyg⟩ := HH.out.2
      have HAi := Lib.hid (HAt.out i i hlt hlt wr hyT)
      have hv0 : trV 2 f i i = f i i := by unfold trV; simp
      have HT1 := Lib.hid (fun (h : trZ0 (f i i) = true) => trHZ_true (kd := 2) (f := f) (R := R) hlt (by rw [hv0]; exact h))
      have HF := Lib.hid (fun (h : trZ0 (f i i) = false) => trHZ_step (kd := 2) (f := f) HH.out.1 (by rw [hv0]; exact h))
      rw [← HfE.out i i] at HAi
      obtain ⟨v, hv⟩ : ∃ v, f i i = v := ⟨_, rfl⟩
      rw [hv] at HAi HT1 HF
      obtain ⟨t0, t1, t2⟩ := cells3v hyZ
      clear hy hyO hyT hyZ hyB hyg hv hv0
      go_wp2_with fail
      refine (HAi.out).mono ?_
      rintro e wa ⟨rfl, hb⟩
      have HW2 := Lib.hid (HH.out.2.nxt hb)
      clear hb t0 t1 t2
      obtain ⟨q, hq⟩ : ∃ q, trZ0 v = q := ⟨_, rfl⟩
      rw [hq] at HT1 HF
      unfold trZ0 at hq
      cases q
      · replace HF := Lib.hid (HF.out rfl)
        go_wp2_with fail
        go_roundw
        case rel => exact ⟨i + 1, by omega, by go_num, Lib.hid ⟨HF.out, HW2.out⟩⟩
        case measure => simp [intOf] <;> omega
      · go_wp2_with fail
        go_ret2
        obtain ⟨y, hy, hyO, hyT, hyZ, hyB, hyg⟩ := HW2.out
        exact ⟨g, c', rfl, hyB⟩
    · obtain rfl : R = i := by omega
      have hqc : ¬ (R : Int) < (R : Int) := by omega
      exfalso
      have h1 := HH.out.1
      rw [HZr.out] at h1
      cases h1

set_option maxRecDepth 100000 in
set_option maxHeartbeats 4000000 in
theorem rtsolvez4 (R gT N cT : Nat) (T : List Nat) (a : Addr) (c : Nat) (l : List Nat) (w : World) (hT : Row w (some ⟨gT, 0, none⟩) (f64s T)) (hTl : T.length = N) (hN : R * R = N) (hNb : N < 1048576) (hgT : N ≠ 0 → gT < w.heap.size) (hRb : R ≤ 1000) (hWT : Wds T) (hA : Row w (some a) (f64s l)) (hl : l.length = R) (hW : Wds l) (hz : trHZ 4 (fun i k => T.getD (i * R + k) 0) R = true) :
    Calls Try.prog 22 #[.int .i64 4, tbl R R gT N cT, .slice (some a) R c] w (RtZd R w) := by
  obtain ⟨i0, hi, hz0, hz1, hz2⟩ := fi0
  have HAt := Lib.hid (fun i k (hi : i < R) (hk : k < R) W (h : Row W (some ⟨gT, 0, none⟩) (f64s T)) => trat_any R R gT N cT T i k W h hTl hNb (by rw [← hN]; exact tab_lt hi hk))
  have Hf := Lib.hid (fun i k => trV_lt (kd := 4) (f := fun i k => T.getD (i * R + k) 0) (i := i) (k := k) (fun i k => tr_wds hWT _))
  have HZr := Lib.hid hz
  have HA := Lib.hid hA
  have Hl := Lib.hid hl
  have HT := Lib.hid hT
  have HWl := Lib.hid hW
  obtain ⟨f, hf⟩ : ∃ f : Nat → Nat → Nat, f = fun i k => T.getD (i * R + k) 0 := ⟨_, rfl⟩
  have HfE := Lib.hid (fun i k => congrFun (congrFun hf i) k)
  rw [← hf] at Hf HZr
  clear hT hgT hTl hN hNb hWT hA hW hz hf
  unfold tbl at *
  go_enter Try.func22, Try.ntmps22
  have HZ0 := Lib.hid (Blk.new w 47 #[.int .i64 R, .int .i64 R, .slice (some ⟨gT, 0, none⟩) N cT])
  obtain ⟨t0, t1, t2⟩ := cells3v HZ0.out
  go_wp2_with (at_builtin; refine wpList_append_own _ rfl _ _ 24 rfl (w.heap.size + 1) 28 i0 (.float .f64 0) 1 8 Try.underlying24 hi hz0 hz1 hz2 rfl (by decide) _ _ _ rfl (own_empty_ _ _ (by simp)) a R c (f64s l) rfl (by simp [f64s, hl]) ?c1 (one_cells l) ?c3 ?c4 ?c5 ?_)
  case c1 => exact row_add (HA.out.below (((Below.refl _ _).alloc (Nat.le_refl _) _).alloc (by simp) _))
  case c3 => unfold maxLen; omega
  case c4 => omega
  case c5 => simp
  intro v' w' hown hgrow hne
  obtain ⟨g, c', rfl, hg, hc, hm, ho⟩ := own_of hown hne hl.symm
  have hO : Only (w.heap.size + 1) ((w.alloc (.cells #[.int .i64 R, .int .i64 R, .slice (some ⟨gT, 0, none⟩) N cT] 47)).alloc (.cells #[] 28)) w' := hgrow
  have HB := Lib.hid ((((Below.refl w.heap.size w).alloc (Nat.le_refl _) (.cells #[.int .i64 R, .int .i64 R, .slice (some ⟨gT, 0, none⟩) N cT] 47)).alloc (by simp) (.cells #[] 28)).grown hgrow (by simp; omega) (fun k hk => by simp [Value.ownBlock] at hk; omega))
  have HZ := Lib.hid (hO.blk (by omega) ((Blk.new w 47 #[.int .i64 R, .int .i64 R, .slice (some ⟨gT, 0, none⟩) N cT]).alloc (.cells #[] 28)))
  have HW0 := Lib.hid (show RtW w R gT N cT T g (fun p => l.getD p 0) w' from ⟨l, ⟨hl, fun p hp => Is.refl (tr_wds HWl.out p)⟩, ho, HT.out.below HB.out, HZ.out, HB.out, hg⟩)
  clear ho hgrow hown hO hl hg hc hm hne t0 t1 t2 HZ0 HB HZ HA HT HWl Hl
  go_wp2_with fail
  go_loopw [10] (fun x wr => ∃ i : Nat, i ≤ R ∧ x = .int .i64 (i : Int) ∧ Hid (trHZ 4 f i = false ∧ RtW w R gT N cT T g (fun p => l.getD p 0) wr)) (fun x _ => R - (intOf x).toNat)
  case atStart => exact ⟨0, Nat.zero_le _, rfl, Lib.hid ⟨rfl, HW0.out⟩⟩
  case round =>
    obtain ⟨i, hi1, rfl, HH⟩ := hrel
    by_cases hlt : i < R
    · have har : (i : Int) < (R : Int) := by omega
      have ha1 : i + 1 ≤ 1048576 := by omega
      obtain ⟨y, hy, hyO, hyT, hyZ, hyB, hyg⟩ := HH.out.2
      have HAi := Lib.hid (HAt.out i i hlt hlt wr hyT)
      have hv0 : trV 4 f i i = f i i := by unfold trV; simp
      have HT1 := Lib.hid (fun (h : trZ0 (f i i) = true) => trHZ_true (kd := 4) (f := f) (R := R) hlt (by rw [hv0]; exact h))
      have HF := Lib.hid (fun (h : trZ0 (f i i) = false) => trHZ_step (kd := 4) (f := f) HH.out.1 (by rw [hv0]; exact h))
      rw [← HfE.out i i] at HAi
      obtain ⟨v, hv⟩ : ∃ v, f i i = v := ⟨_, rfl⟩
      rw [hv] at HAi HT1 HF
      obtain ⟨t0, t1, t2⟩ := cells3v hyZ
      clear hy hyO hyT hyZ hyB hyg hv hv0
      go_wp2_with fail
      refine (HAi.out).mono ?_
      rintro e wa ⟨rfl, hb⟩
      have HW2 := Lib.hid (HH.out.2.nxt hb)
      clear hb t0 t1 t2
      obtain ⟨q, hq⟩ : ∃ q, trZ0 v = q := ⟨_, rfl⟩
      rw [hq] at HT1 HF
      unfold trZ0 at hq
      cases q
      · replace HF := Lib.hid (HF.out rfl)
        go_wp2_with fail
        go_roundw
        case rel => exact ⟨i + 1, by omega, by go_num, Lib.hid ⟨HF.out, HW2.out⟩⟩
        case measure => simp [intOf] <;> omega
      · go_wp2_with fail
        go_ret2
        obtain ⟨y, hy, hyO, hyT, hyZ, hyB, hyg⟩ := HW2.out
        exact ⟨g, c', rfl, hyB⟩
    · obtain rfl : R = i := by omega
      have hqc : ¬ (R : Int) < (R : Int) := by omega
      exfalso
      have h1 := HH.out.1
      rw [HZr.out] at h1
      cases h1

end Go.Proofs.Ytlhdcajamempoaa
