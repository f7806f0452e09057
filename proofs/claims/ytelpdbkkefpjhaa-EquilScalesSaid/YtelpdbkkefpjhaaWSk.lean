/-
Into by the program, where it can be. Conditions: as each says.
-/
import Derived.Test.YtelpdbkkefpjhaaZSCl
import Derived.Test.YtelpdbkkefpjhaaWSj
import Derived.Test.YtelpdbkkefpjhaaWSf
import Derived.Test.YtelpdbkkefpjhaaWSi
set_option linter.unusedVariables false
set_option linter.unusedSimpArgs false
set_option linter.unnecessarySimpa false
namespace Go.Proofs.Ytelpdbkkefpjhaa
open Go.RowKit
attribute [local go_sem ↓] Go.wp_at_zero Go.wp_at_succ

/-- Before and behind the writing of a number. -/
def SetB (W0 : World) (g : Nat) (l2 : List Nat) (d : Bool) (W : World) : Prop := (d = false → Below W0.heap.size W0 W) ∧ (d = true → Own W g l2 ∧ Chg [g] W0 W)
theorem SetB.box {W0 W : World} {g : Nat} {l2 : List Nat} {d : Bool} {b : Nat} {t : TypeId} {cs : Array Value} (h : SetB W0 g l2 d W) (hB : Blk W0 b t cs) (hne : b ≠ g) : Blk W b t cs := by
  cases d
  · exact hB.nxt (h.1 rfl)
  · exact (h.2 rfl).2.blk (by simp; exact hne) hB
/-- The first q numbers, column by column, are the table's. -/
def Cim (l : List Nat) (o R C L : Nat) (T : Nat → Nat → Nat) (q : Nat) (l' : List Nat) : Prop :=
  l'.length = l.length ∧ (∀ a, a < R → ∀ b, b < C → l'.getD (o + a + b * L) 0 = if b * R + a < q then T a b else l.getD (o + a + b * L) 0) ∧ ∀ x, (∀ a, a < R → ∀ b, b < C → x ≠ o + a + b * L) → l'.getD x 0 = l.getD x 0
theorem Cim.zero (l : List Nat) (o R C L : Nat) (T : Nat → Nat → Nat) : Cim l o R C L T 0 l := ⟨rfl, fun a _ b _ => by rw [if_neg (by omega)], fun _ _ => rfl⟩
theorem Cim.done {l l' : List Nat} {o R C L q : Nat} {T : Nat → Nat → Nat} (h : Cim l o R C L T q l') (hq : R * C = q) : Img l o R C L T l' :=
  ⟨h.1, fun a ha b hb => by
    rw [h.2.1 a ha b hb, if_pos]
    have : (b + 1) * R ≤ C * R := Nat.mul_le_mul_right _ (by omega)
    rw [Nat.add_mul, Nat.mul_comm C R, hq] at this; omega, h.2.2⟩
theorem Cim.step {l l' : List Nat} {o R C L q a b : Nat} {T : Nat → Nat → Nat} (h : Cim l o R C L T q l') (hR : R ≤ L) (ha : a < R) (hb : b < C) (hq : b * R + a = q) (hP : o + a + b * L < l.length) : Cim l o R C L T (q + 1) (l'.set (o + a + b * L) (T a b)) := by
  refine ⟨by rw [List.length_set]; exact h.1, fun i hi j hj => ?_, fun x hx => ?_⟩
  · by_cases e : i = a ∧ j = b
    · obtain ⟨rfl, rfl⟩ := e
      rw [getD_set_self (by rw [h.1]; exact hP), if_pos (by omega)]
    · rw [getD_set_ne _ (fun e2 => e (by
        have := spots_inj (L := L) (a := a) (b := b) (a' := i) (b' := j) (by omega) (by omega) (by omega)
        exact ⟨this.1.symm, this.2.symm⟩)), h.2.1 i hi j hj]
      have hne : j * R + i ≠ q := by
        intro e2
        have := spots_inj (L := R) (a := i) (b := j) (a' := a) (b' := b) hi ha (by omega)
        exact e this
      by_cases e1 : j * R + i < q
      · rw [if_pos e1, if_pos (by omega)]
      · rw [if_neg e1, if_neg (by omega)]
  · rw [getD_set_ne _ (fun e => hx a ha b hb e.symm), h.2.2 x hx]

end Go.Proofs.Ytelpdbkkefpjhaa
/-
Finite: are all numbers of a list finite, by the program and by the document. Conditions: the list has at most 2^20 numbers.
-/
set_option linter.unusedVariables false
set_option linter.unusedSimpArgs false
namespace Go.Proofs.Ytelpdbkkefpjhaa
open Go.RowKit
attribute [local go_sem ↓] Go.wp_at_zero Go.wp_at_succ

theorem row_holds {w : World} {b o : Nat} {l : List Nat} (h : Row w (some ⟨b, o, none⟩) (f64s l)) : Holds w b o l := by
  intro i z hz
  rcases h with h0 | ⟨b', o', e, hc⟩
  · have : l = [] := by simpa [f64s] using h0
    subst this; simp at hz
  · injection e with e; injection e with e1 e2
    subst e1; subst e2
    exact hc i _ (by simp [f64s, hz])
theorem nfin_any (A : Option Addr) (n c : Nat) (l : List Nat) (w : World) (hA : Row w A (f64s l)) (hW : Wds l) (hl : l.length = n) (hn : n < 1048576) :
    Calls Try.prog 53 #[.slice A n c] w fun e w' => e = .returned (.bool (l.all Fl.fin)) ∧ w = w' := by
  cases A with
  | some a =>
    rcases hA with h0 | ⟨b, o, e, hc⟩
    · obtain rfl : l = [] := by simpa [f64s] using h0
      obtain rfl : n = 0 := hl.symm
      go_enter Try.func53, Try.ntmps53
      go_wp2
      go_loop [7] (fun i => ∃ k : Nat, k = 0 ∧ i = .int .i64 k) (fun i => 0)
      case atStart => exact ⟨0, rfl, rfl⟩
      case round =>
        obtain ⟨k, rfl, rfl⟩ := hrel
        go_wp2
        go_ret
        exact ⟨rfl, rfl⟩
    · obtain rfl : a = ⟨b, o, none⟩ := by simpa using e
      have := finite_any b o c l w (by omega) hW (row_holds (.inr ⟨b, o, rfl, hc⟩))
      rw [hl] at this
      exact this
  | none =>
    rcases hA with h | ⟨b, o, h, _⟩
    · obtain rfl : l = [] := by simpa [f64s] using h
      obtain rfl : n = 0 := hl.symm
      exact finite_nil c w
    · cases h
theorem kind_fin2 (z : Nat) : (kindOf z != 0) = !Fl.fin z := by
  unfold kindOf Fl.fin
  rw [Bool.eq_iff_iff]
  simp only [bne_iff_ne, ne_eq, Bool.not_eq_true', decide_eq_false_iff_not]
  split
  · simp [*]
  · split <;> simp [*]
set_option maxHeartbeats 1000000 in
theorem rfin_any (A : Option Addr) (n c : Nat) (l : List Nat) (w : World) (hA : Row w A (f64s l)) (hW : Wds l) (hl : l.length = n) (hn : n < 1048576) :
    Calls Try.prog 11 #[.slice A n c] w fun e w' => e = .returned (.bool (l.all Fl.fin)) ∧ w = w' := by
  have HA := Lib.hid hA
  have HW := Lib.hid hW
  have Hl := Lib.hid hl
  clear hA hW hl
  go_enter Try.func11, Try.ntmps11
  go_wp2_with fail
  go_loop [3] (fun i => ∃ k : Nat, k ≤ n ∧ i = .int .i64 k ∧ (l.take k).all Fl.fin = true) (fun i => n - (intOf i).toNat)
  case atStart => exact ⟨0, Nat.zero_le _, rfl, by simp⟩
  case round =>
    obtain ⟨k, hk, rfl, ha⟩ := hrel
    have HAl := Lib.hid ha
    clear ha
    by_cases hlt : k < n
    · have hkl : k < l.length := by rw [Hl.out]; exact hlt
      obtain ⟨b, o, rfl, hc⟩ := HA.out.get0 hkl
      have hw := HW.out.at_ k hkl
      have hstep := all_take l k hkl
      rw [HAl.out] at hstep
      rw [getD_of_lt hkl] at hc
      have hkd := kind_fin2 l[k]
      obtain ⟨z, hz⟩ : ∃ z, l[k] = z := ⟨_, rfl⟩
      rw [hz] at hc hw hstep hkd
      have HS := Lib.hid hstep
      have HX := Lib.hid hw
      have hqc : (k : Int) < (n : Int) := by omega
      have hk1 : k + 1 ≤ 1048576 := by omega
      clear hstep hw hz hkl
      cases hf : Fl.fin z
      · rw [hf] at hkd
        have HF := Lib.hid hf
        clear hf
        go_wp2_with fail
        refine (parts_any z _ HX.out).mono ?_
        rintro e w' ⟨rfl, rfl⟩
        go_wp2_with fail
        go_ret
        refine ⟨ret_bool ?_, rfl⟩
        have h1 := HS.out
        rw [HF.out] at h1
        exact (all_of_take h1).symm
      · rw [hf] at hkd
        have HF := Lib.hid hf
        clear hf
        go_wp2_with fail
        refine (parts_any z _ HX.out).mono ?_
        rintro e w' ⟨rfl, rfl⟩
        go_wp2_with fail
        go_round
        case rel => exact ⟨k + 1, by omega, by go_num, by rw [HS.out, HF.out]; rfl⟩
        case measure => simp [intOf]; omega
    · obtain rfl : k = n := by omega
      have hqc : ¬ (k : Int) < (k : Int) := by omega
      go_wp2_with fail
      go_ret
      exact ⟨ret_bool (by rw [← HAl.out, List.take_of_length_le (by have := Hl.out; omega)]), rfl⟩
end Go.Proofs.Ytelpdbkkefpjhaa
/-
MoveVectors, the beginning: the two copies. Conditions: as each says.
-/
set_option linter.unusedVariables false
set_option linter.unusedSimpArgs false
set_option linter.unnecessarySimpa false
namespace Go.Proofs.Ytelpdbkkefpjhaa
open Go.RowKit
attribute [local go_sem ↓] Go.wp_at_zero Go.wp_at_succ

/-- Two results that have lists of their own. -/
def Twin (Z : Nat) (l l' : List Nat) (f f' : Nat → Nat → Value) (d1 d3 : Bool) (va vb : Value) (W : World) : Prop :=
  d1 = true → ∃ g c, va = f g c ∧ Own W g l ∧ Z ≤ g ∧ (d3 = true → ∃ g' c', vb = f' g' c' ∧ Own W g' l' ∧ Z ≤ g' ∧ g ≠ g')
section
variable {Z : Nat} {l l' : List Nat} {f f' : Nat → Nat → Value} {d1 d3 : Bool} {va vb : Value} {W W' : World}
theorem Twin.nxt (h : Twin Z l l' f f' d1 d3 va vb W) (hb : Below W.heap.size W W') : Twin Z l l' f f' d1 d3 va vb W' := fun e => by
  obtain ⟨g, c, h1, h2, h3, h4⟩ := h e
  refine ⟨g, c, h1, h2.nxt hb, h3, fun e' => ?_⟩
  obtain ⟨g', c', k1, k2, k3, k4⟩ := h4 e'
  exact ⟨g', c', k1, k2.nxt hb, k3, k4⟩
theorem own_ne {g p : Nat} {t : TypeId} {cs : Array Value} (h : Own W g l) (hB : Blk W p t cs) (ht : t ≠ 45) : g ≠ p := by
  rintro rfl
  obtain ⟨cs', hB', _⟩ := h
  unfold Blk at hB hB'
  rw [hB] at hB'
  injection hB' with hB'
  injection hB' with _ e _
  exact ht e
theorem own_far {g p : Nat} (h : Own W g l) (hb : ∀ k, k ≠ p → W'.heap[k]? = W.heap[k]?) (hne : g ≠ p) : Own W' g l := by
  obtain ⟨cs', hB', h2⟩ := h
  exact ⟨cs', (hb g hne).trans hB', h2⟩
theorem Twin.far {p : Nat} {t : TypeId} {cs : Array Value} (h : Twin Z l l' f f' d1 d3 va vb W) (hB : Blk W p t cs) (ht : t ≠ 45) (hb : ∀ k, k ≠ p → W'.heap[k]? = W.heap[k]?) : Twin Z l l' f f' d1 d3 va vb W' := fun e => by
  obtain ⟨g, c, h1, h2, h3, h4⟩ := h e
  refine ⟨g, c, h1, own_far h2 hb (own_ne h2 hB ht), h3, fun e' => ?_⟩
  obtain ⟨g', c', k1, k2, k3, k4⟩ := h4 e'
  exact ⟨g', c', k1, own_far k2 hb (own_ne k2 hB ht), k3, k4⟩
theorem Twin.first {g c : Nat} (ho : Own W g l) (hZ : Z ≤ g) (h3 : d3 = false) : Twin Z l l' f f' true d3 (f g c) vb W := fun _ => ⟨g, c, rfl, ho, hZ, fun e => by rw [h3] at e; cases e⟩
theorem Twin.second {g' c' : Nat} (h : Twin Z l l' f f' true false va vb W) (hb : Below W.heap.size W W') (ho : Own W' g' l') (hZ : Z ≤ g') (hg : W.heap.size ≤ g') : Twin Z l l' f f' true true va (f' g' c') W' := fun _ => by
  obtain ⟨g, c, h1, h2, h3, h4⟩ := h rfl
  exact ⟨g, c, h1, h2.nxt hb, h3, fun _ => ⟨g', c', rfl, ho, hZ, by have := h2.lt; omega⟩⟩
end
end Go.Proofs.Ytelpdbkkefpjhaa
