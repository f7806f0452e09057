/-
Sums' Dot, Asum, Most. Conditions: the lists have at most 2^20 numbers.
-/
import Derived.Test.YtbdlfaclakppgaaSmA
import Derived.Test.YtbdlfaclakppgaaInv
set_option linter.unusedVariables false
set_option linter.unusedSimpArgs false
set_option linter.unnecessarySimpa false
namespace Go.Proofs.Ytbdlfaclakppgaa
open Go.RowKit
attribute [local go_sem ↓] Go.wp_at_zero Go.wp_at_succ

theorem heldN8 {w W : World} {b0 o0 b1 o1 b2 o2 b3 o3 b4 o4 b5 o5 b6 o6 b7 o7 : Nat} {v0 v1 v2 v3 v4 v5 v6 v7 : Value} (h : W.cell? ⟨b0, o0, none⟩ = some v0 ∧ W.cell? ⟨b1, o1, none⟩ = some v1 ∧ W.cell? ⟨b2, o2, none⟩ = some v2 ∧ W.cell? ⟨b3, o3, none⟩ = some v3 ∧ W.cell? ⟨b4, o4, none⟩ = some v4 ∧ W.cell? ⟨b5, o5, none⟩ = some v5 ∧ W.cell? ⟨b6, o6, none⟩ = some v6 ∧ W.cell? ⟨b7, o7, none⟩ = some v7 ∧ Below w.heap.size w W) (m : Nat) :
    (W.drewN m).cell? ⟨b0, o0, none⟩ = some v0 ∧ (W.drewN m).cell? ⟨b1, o1, none⟩ = some v1 ∧ (W.drewN m).cell? ⟨b2, o2, none⟩ = some v2 ∧ (W.drewN m).cell? ⟨b3, o3, none⟩ = some v3 ∧ (W.drewN m).cell? ⟨b4, o4, none⟩ = some v4 ∧ (W.drewN m).cell? ⟨b5, o5, none⟩ = some v5 ∧ (W.drewN m).cell? ⟨b6, o6, none⟩ = some v6 ∧ (W.drewN m).cell? ⟨b7, o7, none⟩ = some v7 ∧ Below w.heap.size w (W.drewN m) :=
  ⟨h.1, h.2.1, h.2.2.1, h.2.2.2.1, h.2.2.2.2.1, h.2.2.2.2.2.1, h.2.2.2.2.2.2.1, h.2.2.2.2.2.2.2.1, below_drewN h.2.2.2.2.2.2.2.2 m⟩
theorem heldM8 {w W : World} {b0 o0 b1 o1 b2 o2 b3 o3 b4 o4 b5 o5 b6 o6 b7 o7 a : Nat} {v0 v1 v2 v3 v4 v5 v6 v7 : Value} (h : (W.drewN a).cell? ⟨b0, o0, none⟩ = some v0 ∧ (W.drewN a).cell? ⟨b1, o1, none⟩ = some v1 ∧ (W.drewN a).cell? ⟨b2, o2, none⟩ = some v2 ∧ (W.drewN a).cell? ⟨b3, o3, none⟩ = some v3 ∧ (W.drewN a).cell? ⟨b4, o4, none⟩ = some v4 ∧ (W.drewN a).cell? ⟨b5, o5, none⟩ = some v5 ∧ (W.drewN a).cell? ⟨b6, o6, none⟩ = some v6 ∧ (W.drewN a).cell? ⟨b7, o7, none⟩ = some v7 ∧ Below w.heap.size w (W.drewN a)) (m : Nat) :
    (W.drewN m).cell? ⟨b0, o0, none⟩ = some v0 ∧ (W.drewN m).cell? ⟨b1, o1, none⟩ = some v1 ∧ (W.drewN m).cell? ⟨b2, o2, none⟩ = some v2 ∧ (W.drewN m).cell? ⟨b3, o3, none⟩ = some v3 ∧ (W.drewN m).cell? ⟨b4, o4, none⟩ = some v4 ∧ (W.drewN m).cell? ⟨b5, o5, none⟩ = some v5 ∧ (W.drewN m).cell? ⟨b6, o6, none⟩ = some v6 ∧ (W.drewN m).cell? ⟨b7, o7, none⟩ = some v7 ∧ Below w.heap.size w (W.drewN m) :=
  ⟨h.1, h.2.1, h.2.2.1, h.2.2.2.1, h.2.2.2.2.1, h.2.2.2.2.2.1, h.2.2.2.2.2.2.1, h.2.2.2.2.2.2.2.1, ⟨(h.2.2.2.2.2.2.2.2).os, (h.2.2.2.2.2.2.2.2).tape, (h.2.2.2.2.2.2.2.2).output, (h.2.2.2.2.2.2.2.2).size, (h.2.2.2.2.2.2.2.2).block⟩⟩
theorem dot_step {l m : List Nat} {k s p r a b : Nat} (hs : Is s (dotF l m k)) (ha : l.getD k 0 = a) (hb : m.getD k 0 = b) (hal : a < 18446744073709551616) (hbl : b < 18446744073709551616) (hp : Comes .mul a b p) (hr : Comes .add s p r) : Is r (dotF l m (k + 1)) := by
  show Is r (fbin .add (dotF l m k) (fbin .mul (l.getD k 0) (m.getD k 0)))
  rw [ha, hb]
  exact hr.is_ hs (hp.is_ (Is.refl hal) (Is.refl hbl))
theorem wds_lst2 {l : List Nat} (h : Wds l) (o i K : Nat) : Wds (lst l o i K) := by
  intro b hb
  unfold lst at hb
  obtain ⟨j, _, rfl⟩ := List.mem_map.1 hb
  rcases Nat.lt_or_ge (o + j * i) l.length with h1 | h1
  · rw [getD_of_lt h1]; exact h.at_ _ h1
  · rw [getD_of_le h1]; omega
theorem lst_wds {l : List Nat} (h : Wds l) (o i K k : Nat) : (lst l o i K).getD k 0 < 18446744073709551616 := by
  have : ∀ (m : List Nat), Wds m → m.getD k 0 < 18446744073709551616 := by
    intro m hm
    rcases Nat.lt_or_ge k m.length with h1 | h1
    · rw [getD_of_lt h1]; exact hm.at_ k h1
    · rw [getD_of_le h1]; omega
  refine this _ fun b hb => ?_
  unfold lst at hb
  obtain ⟨j, _, rfl⟩ := List.mem_map.1 hb
  rcases Nat.lt_or_ge (o + j * i) l.length with h1 | h1
  · rw [getD_of_lt h1]; exact h.at_ _ h1
  · rw [getD_of_le h1]; omega

end Go.Proofs.Ytbdlfaclakppgaa
