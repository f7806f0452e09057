/-
Axes' Axpy. Conditions: the lists are the call's own.
-/
import Derived.Test.YtlhdcajamempoaaGp
import Derived.Shelf.Abstract
import Derived.Test.YtlhdcajamempoaaZVwC
import Derived.Test.YtlhdcajamempoaaGt
set_option linter.unusedVariables false
set_option linter.unusedSimpArgs false
namespace Go.Proofs.Ytlhdcajamempoaa
open Go.RowKit
attribute [local go_sem ↓] Go.wp_at_zero Go.wp_at_succ

/-- What Axpy makes of a number. -/
def AxR (a : Nat) (l : List Nat) (o i : Nat) (l' : List Nat) (o' i' : Nat) (q r : Nat) : Prop := ∃ p, Comes .mul a (l'.getD (o' + q * i') 0) p ∧ Comes .add (l.getD (o + q * i) 0) p r

end Go.Proofs.Ytlhdcajamempoaa
/-
Axes' Scal, Shift, Sign. Conditions: the lists are the call's own.
-/
set_option linter.unusedVariables false
set_option linter.unusedSimpArgs false
namespace Go.Proofs.Ytlhdcajamempoaa
open Go.RowKit
attribute [local go_sem ↓] Go.wp_at_zero Go.wp_at_succ

/-- Which error, or 0. -/
def shfI (n : Nat) (off k inc : Int) (kn : Nat) : Int := if vecB n off k inc = true then (if (kn : Int) = k then 0 else 3) else 1
theorem wrt_whole (l m : List Nat) (K : Nat) (hl : l.length = K) (hm : m.length = K) : wrt l 0 1 m K = m := by
  refine ext_getD (by rw [wrt_length, hl, hm]) fun j hj => ?_
  rw [wrt_length] at hj
  have := wrt_at l 0 1 m K (Nat.le_refl _) (by by_cases h : K = 0; exact .inl h; exact .inr (by omega)) (i := j) (by omega)
  simpa using this
end Go.Proofs.Ytlhdcajamempoaa
/-
The document's Axpy, Scal, Shift, Sign. Conditions: the lists have fewer than 2^20 numbers.
-/
set_option linter.unusedVariables false
set_option linter.unusedSimpArgs false
set_option linter.unnecessarySimpa false
namespace Go.Proofs.Ytlhdcajamempoaa
open Go.RowKit
attribute [local go_sem ↓] Go.wp_at_zero Go.wp_at_succ

/-- A list that is being made longer by one number. -/
def ApS (Z : Nat) (L : List Value) (R : Nat → Prop) (w wr : World) (db da : Bool) (vb va : Value) (W : World) : Prop :=
  (da = false → Below wr.heap.size wr W ∧ (db = true → ∃ g r, vb = .slice (some ⟨g, 0, none⟩) 1 1 ∧ W.cell? ⟨g, 0, none⟩ = some (.float .f64 r) ∧ R r)) ∧
  (da = true → ∃ r, R r ∧ W.ownsRow Z 28 1 va (L.length + 1) (L ++ [.float .f64 r]) ∧ Below w.heap.size w W)
theorem ApS.nxt {Z : Nat} {L : List Value} {R : Nat → Prop} {w wr : World} {db : Bool} {vb va : Value} {W W' : World} (h : ApS Z L R w wr db false vb va W) (hb : Below W.heap.size W W') : ApS Z L R w wr db false vb va W' :=
  ⟨fun _ => ⟨below_nx (h.1 rfl).1 hb, fun e => by
    obtain ⟨g, r, h1, h2, h3⟩ := (h.1 rfl).2 e
    exact ⟨g, r, h1, cell_below h2 hb, h3⟩⟩, fun e => by cases e⟩
theorem ApS.made {Z : Nat} {L : List Value} {R : Nat → Prop} {w wr : World} {vb va : Value} {W : World} {r : Nat} (h : ApS Z L R w wr false false vb va W) (hr : R r) :
    ApS Z L R w wr true false (.slice (some ⟨W.heap.size, 0, none⟩) 1 1) va (W.alloc (.cells #[.float .f64 r] 28)) :=
  ⟨fun _ => ⟨below_nx (h.1 rfl).1 below_one, fun _ => ⟨_, r, rfl, (Blk.new W 28 #[.float .f64 r]).cell 0, hr⟩⟩, fun e => by cases e⟩
theorem ApS.app {Z : Nat} {L : List Value} {R : Nat → Prop} {w wr : World} {vb va out : Value} {W : World} (h : ApS Z L R w wr true false vb va W) (hout : wr.ownsRow Z 28 1 out L.length L) (hbl : Below w.heap.size w wr) (hZ : w.heap.size ≤ Z) (hZ2 : Z ≤ wr.heap.size) (hq : L.length + 1 ≤ 1048576) :
    ∃ g v' w', vb = .slice (some ⟨g, 0, none⟩) 1 1 ∧ (Builtin.append_ #[24, 24] 24 #[out, .slice (some ⟨g, 0, none⟩) 1 1]).run Try.prog W = .ok v' w' ∧ ApS Z L R w wr true true vb v' w' := by
  obtain ⟨i0, hi, hz0, hz1, hz2⟩ := fi0
  obtain ⟨hb, hx⟩ := h.1 rfl
  obtain ⟨g, r, e1, e2, e3⟩ := hx rfl
  have hO : W.ownsRow Z 28 1 out L.length L := hout.kept (row := none) ⟨hb.os, hb.tape, hb.output, hb.size, fun k hk _ => hb.block k hk⟩ (by cases out.ownBlock <;> simp)
  obtain ⟨v', w', r1, r2, r3, _⟩ := run_append_own W Z 24 24 28 i0 (.float .f64 0) 1 8 Try.underlying24 hi hz0 hz1 hz2 rfl (by decide) out L.length L hO ⟨g, 0, none⟩ 1 1 [.float .f64 r] rfl
    (by
      intro j u hj
      match j, hj with
      | 0, hj =>
        have : u = .float .f64 r := by simpa using hj.symm
        subst this
        exact e2
      | j + 1, hj => simp at hj) (by intro u hu; simp at hu; subst hu; rfl) (by unfold maxLen; omega) (by omega) (by have := hb.size; omega)
  refine ⟨g, v', w', e1, r1, ⟨(fun e => by cases e), fun _ => ⟨r, e3, r2, ?_⟩⟩⟩
  exact (below_nx hbl hb).grown r3 (below_nx hbl hb).size (fun k hk => by have := (hO.lt k hk).1; omega)
/-- The call returned a list of n numbers of which this holds. -/
def RetL (R : Nat → Nat → Prop) (n : Nat) (w : World) (e : Ending) (w' : World) : Prop :=
  ∃ B d m, e = .returned (.slice B n d) ∧ m.length = n ∧ (∀ q, q < n → R q (m.getD q 0)) ∧ Row w' B (f64s m) ∧ Below w.heap.size w w'
/-- What Axpy makes of a number. -/
def AxQ (a : Nat) (l l' : List Nat) (q r : Nat) : Prop := ∃ p, Comes .mul a (l.getD q 0) p ∧ Comes .add (l'.getD q 0) p r
theorem AxQ_all {R : Nat → Nat → Prop} {L : List Nat} {q r : Nat} (hl : L.length = q) (h : ∀ j, j < q → R j (L.getD j 0)) (hr : R q r) : ∀ j, j < q + 1 → R j ((L ++ [r]).getD j 0) := by
  intro j hj
  by_cases h1 : j < q
  · have : (L ++ [r]).getD j 0 = L.getD j 0 := by simp [List.getD, List.getElem?_append_left (show j < L.length by omega)]
    rw [this]; exact h j h1
  · obtain rfl : j = q := by omega
    have : (L ++ [r]).getD j 0 = r := by simp [List.getD, ← hl]
    rw [this]; exact hr
end Go.Proofs.Ytlhdcajamempoaa
