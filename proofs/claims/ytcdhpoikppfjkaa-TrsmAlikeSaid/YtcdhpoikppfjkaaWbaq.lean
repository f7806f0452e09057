/-
Trsv: the document's Solve, what its walk holds. Conditions: as each says.
-/
import Derived.Test.YtcdhpoikppfjkaaZATrC
import Derived.Test.YtcdhpoikppfjkaaWbaf
import Derived.Deep.RegionWith
import Derived.Test.YtcdhpoikppfjkaaZAVwH
import Derived.Test.YtcdhpoikppfjkaaWbah
import Derived.Test.YtcdhpoikppfjkaaWbaj
import Derived.Test.YtcdhpoikppfjkaaWbak
import Derived.Test.YtcdhpoikppfjkaaWbap
import Derived.Test.YtcdhpoikppfjkaaZATsB
import Derived.Test.YtcdhpoikppfjkaaZAMvF
import Derived.Test.YtcdhpoikppfjkaaAInv
set_option linter.unusedVariables false
set_option linter.unusedSimpArgs false
set_option linter.unnecessarySimpa false
namespace Go.Proofs.Ytcdhpoikppfjkaa
open Go.RowKit
attribute [local go_sem ↓] Go.wp_at_zero Go.wp_at_succ

/-- What a walk of the document's Solve holds: a list of its own whose numbers are these. -/
def RtW (w : World) (R gT N cT : Nat) (T : List Nat) (g : Nat) (Z : Nat → Nat) (wr : World) : Prop :=
  ∃ y, (y.length = R ∧ ∀ p, p < R → Is (y.getD p 0) (Z p)) ∧ Own wr g y ∧ Row wr (some ⟨gT, 0, none⟩) (f64s T) ∧ Blk wr w.heap.size 31 #[.int .i64 R, .int .i64 R, .slice (some ⟨gT, 0, none⟩) N cT] ∧ Below w.heap.size w wr ∧ w.heap.size + 1 ≤ g
theorem RtW.congr {w wr : World} {R gT N cT : Nat} {T : List Nat} {g : Nat} {Z Z' : Nat → Nat} (h : RtW w R gT N cT T g Z wr) (e : ∀ p, p < R → Z p = Z' p) : RtW w R gT N cT T g Z' wr := by
  obtain ⟨y, ⟨h1, h2⟩, h3⟩ := h
  exact ⟨y, ⟨h1, fun p hp => by rw [← e p hp]; exact h2 p hp⟩, h3⟩
theorem RtW.nxt {w wr W : World} {R gT N cT : Nat} {T : List Nat} {g : Nat} {Z : Nat → Nat} (h : RtW w R gT N cT T g Z wr) (hb : Below wr.heap.size wr W) : RtW w R gT N cT T g Z W := by
  obtain ⟨y, h1, h2, h3, h4, h5, h6⟩ := h
  exact ⟨y, h1, h2.nxt hb, h3.below hb, h4.nxt hb, below_nx h5 hb, h6⟩
theorem RtW.put {w wr W : World} {R gT N cT : Nat} {T : List Nat} {g : Nat} {Z Z' : Nat → Nat} {q r z : Nat} (h : RtW w R gT N cT T g Z wr) (hgT : N ≠ 0 → gT < w.heap.size) (hTl : T.length = N) (hq : q < R) (hb : Below wr.heap.size wr W) (hr : Is r z) (hZ : ∀ p, p < R → (if p = q then z else Z p) = Z' p) :
    RtW w R gT N cT T g Z' (W.setCell ⟨g, q, none⟩ (.float .f64 r)) := by
  obtain ⟨y, ⟨h1, h2⟩, h3, h4, h5, h6, h7⟩ := h
  have hql : q < y.length := by rw [h1]; exact hq
  refine ⟨y.set q r, ⟨by rw [List.length_set]; exact h1, fun p hp => ?_⟩, (h3.nxt hb).set_ _ _ hql, ?_, (h5.nxt hb).other (by show w.heap.size ≠ g; omega) _, (below_nx h6 hb).setCell (p := ⟨g, q, none⟩) (by show w.heap.size ≤ g; omega) _, h7⟩
  · rw [← hZ p hp]
    by_cases e : p = q
    · rw [if_pos e, e, getD_set_self hql]; exact hr
    · rw [if_neg e, getD_set_ne _ (fun e2 => e e2.symm)]; exact h2 p hp
  · rcases Nat.eq_zero_or_pos N with e | e
    · have : T = [] := List.length_eq_zero_iff.1 (by omega)
      subst this
      exact .inl rfl
    · have hg := hgT (by omega)
      rcases h4.below hb with h | ⟨b, o, e1, hc⟩
      · exact .inl h
      · refine .inr ⟨b, o, e1, fun i v hi => ?_⟩
        injection e1 with e1; injection e1 with e2 _
        exact (cell_set (by show b ≠ g; omega) _).trans (hc i v hi)
end Go.Proofs.Ytcdhpoikppfjkaa
/-
The document's solution of many right sides. Conditions: as each says.
-/
set_option linter.unusedVariables false
set_option linter.unusedSimpArgs false
set_option linter.unnecessarySimpa false
namespace Go.Proofs.Ytcdhpoikppfjkaa
open Go.RowKit
attribute [local go_sem ↓] Go.wp_at_zero Go.wp_at_succ

/-- A list and whether it is solved, as the document's Solve answers. -/
def TuL (W : World) (v : Value) (z R : Nat) (b : Bool) (F : Nat → Nat) : Prop := ∃ g c y, v = .tuple #[.slice (some ⟨g, 0, none⟩) R c, .bool b] ∧ (y.length = R ∧ (b = true → ∀ p, p < R → Is (y.getD p 0) (F p))) ∧ Own W g y ∧ z ≤ g
theorem TuL.below {W W' : World} {v : Value} {z R : Nat} {b : Bool} {F : Nat → Nat} (h : TuL W v z R b F) (hb : Below W.heap.size W W') : TuL W' v z R b F := by
  obtain ⟨g, c, y, h1, h2, h3, h4⟩ := h
  exact ⟨g, c, y, h1, h2, h3.nxt hb, h4⟩
def LiL (W : World) (v : Value) (z R : Nat) (b : Bool) (F : Nat → Nat) : Prop := ∃ g c y, v = .slice (some ⟨g, 0, none⟩) R c ∧ (y.length = R ∧ (b = true → ∀ p, p < R → Is (y.getD p 0) (F p))) ∧ Own W g y ∧ z ≤ g
theorem LiL.below {W W' : World} {v : Value} {z R : Nat} {b : Bool} {F : Nat → Nat} (h : LiL W v z R b F) (hb : Below W.heap.size W W') : LiL W' v z R b F := by
  obtain ⟨g, c, y, h1, h2, h3, h4⟩ := h
  exact ⟨g, c, y, h1, h2, h3.nxt hb, h4⟩
def RoL (W : World) (v : Value) (l : List Nat) (n : Nat) : Prop := ∃ B d, v = .slice B n d ∧ Row W B (f64s l)
theorem RoL.below {W W' : World} {v : Value} {l : List Nat} {n : Nat} (h : RoL W v l n) (hb : Below W.heap.size W W') : RoL W' v l n := by
  obtain ⟨B, d, h1, h2⟩ := h
  exact ⟨B, d, h1, h2.below hb⟩
end Go.Proofs.Ytcdhpoikppfjkaa
