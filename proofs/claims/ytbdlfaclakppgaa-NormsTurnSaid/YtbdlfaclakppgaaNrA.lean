/-
Norms, pure: the greatest of numbers, whatever their order; the greatest one by one. Conditions: as each says.
-/
import Derived.Test.YtbdlfaclakppgaaSmK
set_option linter.unusedVariables false
set_option linter.unusedSimpArgs false
namespace Go.Proofs.Ytbdlfaclakppgaa
open Go.RowKit

theorem gF_succ (l : List Nat) (k : Nat) : gF l (k + 1) = if Fl.nan (gF l k) || Fl.nan (l.getD k 0) then NANW else if Fl.key (gF l k) < Fl.key (l.getD k 0) then l.getD k 0 else gF l k := by
  rw [gF]
  cases h1 : Fl.nan (gF l k)
  · cases h2 : Fl.nan (l.getD k 0)
    · rw [Fl.gtr_of (le_inf h2) (le_inf h1)]
      simp
    · simp
  · simp
theorem key_pos {b : Nat} (h : Fl.sg b = false) (hb : b < 18446744073709551616) : Fl.key b = (b : Int) := by
  unfold Fl.key
  rw [h]
  unfold Fl.sg at h
  unfold Fl.rung
  simp at h ⊢
  omega
theorem sg_of_key {b : Nat} (h : 0 < Fl.key b) : Fl.sg b = false := by
  unfold Fl.key at h
  cases hs : Fl.sg b
  · rfl
  · rw [hs] at h; simp at h; omega
/-- r is the greatest of some numbers and +0: no number, if one of them isn't. -/
def GrP (P : Nat → Prop) (r : Nat) : Prop :=
  r < 18446744073709551616 ∧ ((Fl.nan r = true ∧ ∃ x, P x ∧ Fl.nan x = true) ∨ (Fl.nan r = false ∧ Fl.sg r = false ∧ (∀ x, P x → Fl.nan x = false ∧ Fl.key x ≤ Fl.key r) ∧ (r = 0 ∨ P r)))
theorem GrP.of_is {P : Nat → Prop} {r s : Nat} (h : GrP P s) (hi : Is r s) : GrP P r := by
  refine ⟨hi.1, ?_⟩
  rcases hi.2 with e | ⟨h1, h2⟩
  · subst e; exact h.2
  · rcases h.2 with ⟨_, h3⟩ | ⟨h3, _⟩
    · exact .inl ⟨h1, h3⟩
    · rw [h2] at h3; cases h3
theorem GrP.unique {P : Nat → Prop} {r s : Nat} (h : GrP P r) (k : GrP P s) : Is r s := by
  refine ⟨h.1, ?_⟩
  rcases h.2 with ⟨h1, x, hx, hn⟩ | ⟨h1, h2, h3, h4⟩
  · rcases k.2 with ⟨k1, _⟩ | ⟨_, _, k3, _⟩
    · exact .inr ⟨h1, k1⟩
    · rw [(k3 x hx).1] at hn; cases hn
  · rcases k.2 with ⟨_, x, hx, hn⟩ | ⟨k1, k2, k3, k4⟩
    · rw [(h3 x hx).1] at hn; cases hn
    · left
      have e1 := key_pos h2 h.1
      have e2 := key_pos k2 k.1
      have l1 : Fl.key s ≤ Fl.key r := by
        rcases k4 with e | e
        · rw [e2, e1, e]; omega
        · exact (h3 s e).2
      have l2 : Fl.key r ≤ Fl.key s := by
        rcases h4 with e | e
        · rw [e2, e1, e]; omega
        · exact (k3 r e).2
      omega
theorem GrP.congr {P Q : Nat → Prop} {r : Nat} (h : GrP P r) (e : ∀ x, P x ↔ Q x) : GrP Q r := by
  have : P = Q := funext fun x => propext (e x)
  rw [← this]; exact h
theorem GrP.union {R : Nat} {P : Nat → Nat → Prop} {V : Nat → Nat} {r : Nat} (h : ∀ i, i < R → GrP (P i) (V i)) (k : GrP (fun x => ∃ i, i < R ∧ x = V i) r) : GrP (fun x => ∃ i, i < R ∧ P i x) r := by
  refine ⟨k.1, ?_⟩
  rcases k.2 with ⟨h1, x, ⟨i, hi, rfl⟩, hn⟩ | ⟨h1, h2, h3, h4⟩
  · rcases (h i hi).2 with ⟨_, y, hy, hyn⟩ | ⟨h4, _⟩
    · exact .inl ⟨h1, y, ⟨i, hi, hy⟩, hyn⟩
    · rw [hn] at h4; cases h4
  · right
    refine ⟨h1, h2, ?_, ?_⟩
    · rintro x ⟨i, hi, hx⟩
      have hv := h3 (V i) ⟨i, hi, rfl⟩
      rcases (h i hi).2 with ⟨h5, _⟩ | ⟨_, _, h6, _⟩
      · rw [hv.1] at h5; cases h5
      · have := h6 x hx
        exact ⟨this.1, by omega⟩
    · rcases h4 with e | ⟨i, hi, e⟩
      · exact .inl e
      · rcases (h i hi).2 with ⟨h5, _⟩ | ⟨_, _, _, h7⟩
        · rw [← e, h1] at h5; cases h5
        · rcases h7 with h7 | h7
          · left; rw [e, h7]
          · right; exact ⟨i, hi, by rw [e]; exact h7⟩
theorem GrP.gF {l : List Nat} (h : Wds l) : ∀ n, GrP (fun x => ∃ k, k < n ∧ x = l.getD k 0) (gF l n)
  | 0 => ⟨by show (0 : Nat) < _; omega, .inr ⟨by show Fl.nan 0 = false; decide, by show Fl.sg 0 = false; decide, fun x ⟨k, hk, _⟩ => by omega, .inl rfl⟩⟩
  | n + 1 => by
    have ih := GrP.gF h n
    refine ⟨gF_lt h _, ?_⟩
    rw [gF_succ]
    rcases ih.2 with ⟨h1, x, ⟨k, hk, hx⟩, hn⟩ | ⟨h1, h2, h3, h4⟩
    · left
      rw [h1, Bool.true_or, if_pos rfl]
      exact ⟨nanw_nan, x, ⟨k, by omega, hx⟩, hn⟩
    · cases hm : Fl.nan (l.getD n 0)
      · right
        rw [h1, Bool.or_self, if_neg (by decide)]
        have h0 := key_pos h2 ih.1
        by_cases hlt : Fl.key (Go.Proofs.Ytbdlfaclakppgaa.gF l n) < Fl.key (l.getD n 0)
        · rw [if_pos hlt]
          refine ⟨hm, sg_of_key (by omega), ?_, .inr ⟨n, by omega, rfl⟩⟩
          rintro x ⟨k, hk, rfl⟩
          by_cases e : k = n
          · subst e; exact ⟨hm, Int.le_refl _⟩
          · have := h3 _ ⟨k, by omega, rfl⟩
            exact ⟨this.1, by omega⟩
        · rw [if_neg hlt]
          refine ⟨h1, h2, ?_, ?_⟩
          · rintro x ⟨k, hk, rfl⟩
            by_cases e : k = n
            · subst e; exact ⟨hm, by omega⟩
            · exact h3 _ ⟨k, by omega, rfl⟩
          · rcases h4 with e | ⟨k, hk, e⟩
            · exact .inl e
            · exact .inr ⟨k, by omega, e⟩
      · left
        rw [Bool.or_true, if_pos rfl]
        exact ⟨nanw_nan, _, ⟨n, by omega, rfl⟩, hm⟩
/-- Of two numbers, the first one being the greatest of those before. -/
theorem gF_next {V : List Nat} {k m x r : Nat} (hV : Wds V) (hm : Is m (gF V k)) (hx : Is x (V.getD k 0)) (hr : Is r (gF [m, x] 2)) : Is r (gF V (k + 1)) := by
  have hw : Wds [m, x] := fun b hb => by
    rcases List.mem_cons.1 hb with rfl | hb
    · exact hm.1
    · rcases List.mem_cons.1 hb with rfl | hb
      · exact hx.1
      · cases hb
  refine GrP.unique (GrP.of_is ?_ hr) (GrP.gF hV (k + 1))
  -- both are the greatest of the same numbers
  have h2 := GrP.gF hw 2
  have hk := GrP.of_is (GrP.gF hV k) hm
  refine ⟨h2.1, ?_⟩
  have e0 : ([m, x] : List Nat).getD 0 0 = m := rfl
  have e1 : ([m, x] : List Nat).getD 1 0 = x := rfl
  rcases h2.2 with ⟨h3, y, ⟨j, hj, hy⟩, hn⟩ | ⟨h3, h4, h5, h6⟩
  · left
    refine ⟨h3, ?_⟩
    rcases (show j = 0 ∨ j = 1 by omega) with rfl | rfl
    · rw [e0] at hy
      subst hy
      rcases hk.2 with ⟨_, z, ⟨q, hq, hz⟩, hzn⟩ | ⟨hc, _⟩
      · exact ⟨z, ⟨q, by omega, hz⟩, hzn⟩
      · rw [hn] at hc; cases hc
    · rw [e1] at hy
      subst hy
      exact ⟨_, ⟨k, by omega, rfl⟩, by rw [← hx.nan]; exact hn⟩
  · right
    have hmn := (h5 m ⟨0, by omega, rfl⟩)
    have hxn := (h5 x ⟨1, by omega, rfl⟩)
    have hxe : x = V.getD k 0 := hx.eq_of (by rw [← hx.nan]; exact hxn.1)
    rcases hk.2 with ⟨hc, _⟩ | ⟨_, k2, k3, k4⟩
    · rw [hmn.1] at hc; cases hc
    · refine ⟨h3, h4, ?_, ?_⟩
      · rintro y ⟨q, hq, rfl⟩
        by_cases e : q = k
        · subst e; rw [← hxe]; exact hxn
        · have := k3 _ ⟨q, by omega, rfl⟩
          exact ⟨this.1, by omega⟩
      · rcases h6 with e | ⟨j, hj, e⟩
        · exact .inl e
        · rcases (show j = 0 ∨ j = 1 by omega) with rfl | rfl
          · rw [e0] at e
            rcases k4 with k4 | ⟨q, hq, k4⟩
            · left; rw [e, k4]
            · right; exact ⟨q, by omega, by rw [e, k4]⟩
          · rw [e1] at e
            right; exact ⟨k, by omega, by rw [e, hxe]⟩
/-- Lists that are alike have the same greatest. -/
theorem gF_alike {V V' : List Nat} (hV : Wds V) (n : Nat) (h : ∀ k, k < n → Is (V.getD k 0) (V'.getD k 0)) (hV' : Wds V') : Is (gF V n) (gF V' n) := by
  refine GrP.unique ⟨gF_lt hV n, ?_⟩ (GrP.gF hV' n)
  rcases (GrP.gF hV n).2 with ⟨h1, x, ⟨k, hk, rfl⟩, hn⟩ | ⟨h1, h2, h3, h4⟩
  · exact .inl ⟨h1, _, ⟨k, hk, rfl⟩, by rw [← (h k hk).nan]; exact hn⟩
  · right
    have he : ∀ k, k < n → V.getD k 0 = V'.getD k 0 := fun k hk => (h k hk).eq_of (by rw [← (h k hk).nan]; exact (h3 _ ⟨k, hk, rfl⟩).1)
    refine ⟨h1, h2, ?_, ?_⟩
    · rintro x ⟨k, hk, rfl⟩
      rw [← he k hk]; exact h3 _ ⟨k, hk, rfl⟩
    · rcases h4 with e | ⟨k, hk, e⟩
      · exact .inl e
      · exact .inr ⟨k, hk, by rw [e, he k hk]⟩
end Go.Proofs.Ytbdlfaclakppgaa
