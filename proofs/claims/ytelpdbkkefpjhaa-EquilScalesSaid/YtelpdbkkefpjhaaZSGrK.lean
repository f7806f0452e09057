/-
GerShifts: what its walk holds. Conditions: as each says.
-/
import Derived.Test.YtelpdbkkefpjhaaZSGrG
import Derived.Test.YtelpdbkkefpjhaaWSp
import Derived.Test.YtelpdbkkefpjhaaZSGrD
import Derived.Test.YtelpdbkkefpjhaaWSg
import Derived.Test.YtelpdbkkefpjhaaWSj
import Derived.Test.YtelpdbkkefpjhaaWSl
set_option linter.unusedVariables false
set_option linter.unusedSimpArgs false
set_option linter.unnecessarySimpa false
namespace Go.Proofs.Ytelpdbkkefpjhaa
open Go.RowKit
attribute [local go_sem ↓] Go.wp_at_zero Go.wp_at_succ

theorem dense_turn2 {l M : List Nat} {o R C L : Nat} (h : Dense (colsL l o R L C) C R M) {a b : Nat} (ha : a < R) (hb : b < C) : M.getD (b + a * C) 0 = l.getD (o + a + b * L) 0 := by
  have hp : b * R + a < C * R := tab_lt hb ha
  have h2 := h.2 (b * R + a) hp
  rw [colsL_getD l o R L ha hb] at h2
  have h3 : spot C R (b * R + a) = b + a * C := by
    unfold spot
    have e1 : (b * R + a) / R = b := by rw [Nat.add_comm, Nat.add_mul_div_right _ _ (by omega), Nat.div_eq_of_lt ha]; simp
    have e2 : (b * R + a) % R = a := by rw [Nat.add_comm, Nat.add_mul_mod_self_right, Nat.mod_eq_of_lt ha]
    rw [e1, e2]
  rw [← h3]
  exact h2
theorem kpv {d : Nat → Bool} {i j : Nat} {s : Nat → Value} {k : Nat} {dst : Option Nat} {v x : Value} (h : d j = true → s k = x) (hj : j ≠ i) (hk : dst ≠ some k) : did d i j = true → sput s dst v k = x := fun e => by
  rw [did_ne d hj] at e
  unfold sput
  rw [if_neg hk]
  exact h e

/-- A matrix turned about: its table. -/
def TrnS (l : List Nat) (o R C L N : Nat) (T' : List Nat) : Prop := T'.length = N ∧ ∀ i, i < R → ∀ j, j < C → T'.getD (j * R + i) 0 = l.getD (o + i + j * L) 0
theorem TrnS.uniq {l : List Nat} {o R C L N : Nat} {X Y : List Nat} (hN : R * C = N) (h : TrnS l o R C L N X) (k : TrnS l o R C L N Y) : X = Y := by
  refine ext_getD (h.1.trans k.1.symm) fun x hx => ?_
  rw [h.1, ← hN] at hx
  have hR : 0 < R := by
    rcases Nat.eq_zero_or_pos R with e | e
    · subst e; simp at hx
    · exact e
  have hi : x % R < R := Nat.mod_lt _ hR
  have hj : x / R < C := Nat.div_lt_of_lt_mul hx
  have e : x / R * R + x % R = x := by rw [Nat.mul_comm]; exact Nat.div_add_mod x R
  have h1 := h.2 _ hi _ hj
  have h2 := k.2 _ hi _ hj
  rw [e] at h1 h2
  rw [h1, h2]
theorem TrnS.wds {l : List Nat} {o R C L N : Nat} {X : List Nat} (hN : R * C = N) (hl : Wds l) (h : TrnS l o R C L N X) : Wds X := by
  refine wds_of_getD fun x hx => ?_
  rw [h.1, ← hN] at hx
  have hR : 0 < R := by
    rcases Nat.eq_zero_or_pos R with e | e
    · subst e; simp at hx
    · exact e
  have e : x / R * R + x % R = x := by rw [Nat.mul_comm]; exact Nat.div_add_mod x R
  have h1 := h.2 _ (Nat.mod_lt x hR) _ (Nat.div_lt_of_lt_mul hx)
  rw [e] at h1
  rw [h1]; exact gr_wds hl _
theorem TrnS.of_ref {l T T' : List Nat} {o R C L N : Nat} (hN : R * C = N) (hT : Tab l o R C L N T) (hl : T'.length = N) (h : ∀ i, i < R → ∀ j, j < C → TurnT T C i j (T'.getD (j * R + i) 0)) : TrnS l o R C L N T' :=
  ⟨hl, fun i hi j hj => by rw [h i hi j hj, tab_get hT hN hi hj]⟩
theorem TrnS.of_prog {l M T2 : List Nat} {o R C L N D : Nat} (hN : R * C = N) (hD : max 1 C = D) (h : Dense (colsL l o R L C) C R M) (ht : Tab M 0 C R D N T2) : TrnS l o R C L N T2 := by
  refine ⟨by rw [ht.1, Nat.mul_comm, hN], fun i hi j hj => ?_⟩
  rw [tab_get ht (by rw [Nat.mul_comm]; exact hN) hj hi]
  have hD2 : D = C := by omega
  subst hD2
  have e : 0 + j + i * D = j + i * D := by omega
  rw [e]
  exact dense_turn2 h hi hj
/-- A matrix scaled: its table. -/
def ShfS (zr zc : List Int) (l : List Nat) (o R C L N : Nat) (T' : List Nat) : Prop := T'.length = N ∧ ∀ i, i < R → ∀ j, j < C → T'.getD (i * C + j) 0 = Fl.scale (l.getD (o + i + j * L) 0) (shfE (zr.getD i 0) (zc.getD j 0))
theorem ShfS.of_ref {zr zc : List Int} {l T T' : List Nat} {o R C L N : Nat} (hN : R * C = N) (hT : Tab l o R C L N T) (hl : T'.length = N) (h : ∀ i, i < R → ∀ j, j < C → ShfT zr zc T C i j (T'.getD (i * C + j) 0)) : ShfS zr zc l o R C L N T' :=
  ⟨hl, fun i hi j hj => by rw [h i hi j hj, tab_get hT hN hi hj]⟩
/-- A table, a slice, of which this holds. -/
def TbG (W : World) (v : Value) (S : List Nat → Prop) (r k N : Nat) : Prop := ∃ g c T, v = .agg #[.int .i64 (r : Int), .int .i64 (k : Int), .slice (some ⟨g, 0, none⟩) N c] ∧ S T ∧ Row W (some ⟨g, 0, none⟩) (f64s T)
def SlG (W : World) (v : Value) (S : List Nat → Prop) (N : Nat) : Prop := ∃ B d X, v = .slice B N d ∧ S X ∧ Row W B (f64s X)
theorem TbG.below {W W' : World} {v : Value} {S : List Nat → Prop} {r k N : Nat} (h : TbG W v S r k N) (hb : Below W.heap.size W W') : TbG W' v S r k N := by
  obtain ⟨g, c, T, h1, h2, h3⟩ := h; exact ⟨g, c, T, h1, h2, Row.below h3 hb⟩
theorem SlG.below {W W' : World} {v : Value} {S : List Nat → Prop} {N : Nat} (h : SlG W v S N) (hb : Below W.heap.size W W') : SlG W' v S N := by
  obtain ⟨B, d, X, h1, h2, h3⟩ := h; exact ⟨B, d, X, h1, h2, Row.below h3 hb⟩
end Go.Proofs.Ytelpdbkkefpjhaa
