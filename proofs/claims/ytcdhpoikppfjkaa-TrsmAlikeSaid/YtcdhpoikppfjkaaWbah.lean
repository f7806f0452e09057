/-
Rows: two rows change places. Conditions: the matrix' list is the call's own, or the caller's.
-/
import Derived.Test.YtcdhpoikppfjkaaZAMvF
import Derived.Test.YtcdhpoikppfjkaaAInv
import Derived.Test.YtcdhpoikppfjkaaWbad
set_option linter.unusedVariables false
set_option linter.unusedSimpArgs false
set_option linter.unnecessarySimpa false
namespace Go.Proofs.Ytcdhpoikppfjkaa
open Go.RowKit
attribute [local go_sem ↓] Go.wp_at_zero Go.wp_at_succ

/-- What a region has made so far: its variables p and q hold these, or their first values. -/
def Two (w0 : World) (t : TypeId) (z a b : Array Value) (da db sa sb : Bool) (va vb : Value) (W : World) : Prop :=
  Below w0.heap.size w0 W ∧ (da = true → ∃ p, va = .pointer (some ⟨p, 0, none⟩) ∧ w0.heap.size ≤ p ∧ Blk W p t (if sa then a else z)) ∧
    (db = true → ∃ p, vb = .pointer (some ⟨p, 0, none⟩) ∧ w0.heap.size ≤ p ∧ Blk W p t (if sb then b else z)) ∧ (da = true → db = true → va ≠ vb)
section
variable {w0 W W' : World} {t : TypeId} {z a b : Array Value} {da db sa sb : Bool} {va vb : Value}
theorem Two.nxt (h : Two w0 t z a b da db sa sb va vb W) (hb : Below W.heap.size W W') : Two w0 t z a b da db sa sb va vb W' :=
  ⟨below_nx h.1 hb, fun e => by
    obtain ⟨p, h1, h2, h3⟩ := h.2.1 e
    exact ⟨p, h1, h2, h3.nxt hb⟩, fun e => by
    obtain ⟨p, h1, h2, h3⟩ := h.2.2.1 e
    exact ⟨p, h1, h2, h3.nxt hb⟩, h.2.2.2⟩
end
theorem heap_sets4 {w : World} {g k : Nat} (h : k ≠ g) (x0 x1 x2 x3 : Value) : ((((w.setCell ⟨g, 0, none⟩ x0).setCell ⟨g, 1, none⟩ x1).setCell ⟨g, 2, none⟩ x2).setCell ⟨g, 3, none⟩ x3).heap[k]? = w.heap[k]? := by
  rw [Below.heap_setCell _ _ _ _ h, Below.heap_setCell _ _ _ _ h, Below.heap_setCell _ _ _ _ h, Below.heap_setCell _ _ _ _ h]
theorem heap_sets5 {w : World} {g k : Nat} (h : k ≠ g) (x0 x1 x2 x3 x4 : Value) : (((((w.setCell ⟨g, 0, none⟩ x0).setCell ⟨g, 1, none⟩ x1).setCell ⟨g, 2, none⟩ x2).setCell ⟨g, 3, none⟩ x3).setCell ⟨g, 4, none⟩ x4).heap[k]? = w.heap[k]? := by
  rw [Below.heap_setCell _ _ _ _ h, heap_sets4 h]
end Go.Proofs.Ytcdhpoikppfjkaa
/-
Rows of a matrix change places, in the list. Conditions: as each says.
-/
set_option linter.unusedVariables false
namespace Go.Proofs.Ytcdhpoikppfjkaa
open Go.RowKit
attribute [local go_sem ↓] Go.wp_at_zero Go.wp_at_succ

/-- A right matrix, in plain numbers. -/
theorem mat_nat {n : Nat} {off r k ld : Int} (h : matB n off r k ld = true) : ∃ o R C L : Nat, off = o ∧ r = R ∧ k = C ∧ ld = L ∧ 1 ≤ L ∧ R ≤ L ∧ (R = 0 ∨ C = 0 ∨ o + (C - 1) * L + (R - 1) < n) := by
  have h := of_decide_eq_true h
  refine ⟨off.toNat, r.toNat, k.toNat, ld.toNat, by omega, by omega, by omega, by omega, by omega, by omega, ?_⟩
  by_cases hr : r = 0
  · exact .inl (by omega)
  · by_cases hk : k = 0
    · exact .inr (.inl (by omega))
    · refine .inr (.inr ?_)
      have e : ((off.toNat + (k.toNat - 1) * ld.toNat + (r.toNat - 1) : Nat) : Int) = off + (k - 1) * ld + (r - 1) := by
        rw [Int.natCast_add, Int.natCast_add, Int.natCast_mul, Int.toNat_of_nonneg (by omega), Int.toNat_of_nonneg (by omega : 0 ≤ ld)]
        have e1 : ((k.toNat - 1 : Nat) : Int) = k - 1 := by omega
        have e2 : ((r.toNat - 1 : Nat) : Int) = r - 1 := by omega
        rw [e1, e2]
      omega
theorem mat_right {n o R C L : Nat} (hL : 1 ≤ L) (hR : R ≤ L) (h : R = 0 ∨ C = 0 ∨ o + (C - 1) * L + (R - 1) < n) : matB n (o : Int) (R : Int) (C : Int) (L : Int) = true := by
  refine decide_eq_true ⟨by omega, by omega, by omega, by omega, by omega, ?_⟩
  rcases Nat.eq_zero_or_pos R with h0 | h0
  · exact .inl (by omega)
  rcases Nat.eq_zero_or_pos C with h1 | h1
  · exact .inr (.inl (by omega))
  have h2 : o + (C - 1) * L + (R - 1) < n := by omega
  refine .inr (.inr ?_)
  have e : ((C : Int) - 1) * (L : Int) = (((C - 1) * L : Nat) : Int) := by rw [Int.natCast_mul]; congr 1; omega
  rw [e]; omega

/-- The list has the table T at the matrix' places, and is else as it was. -/
def Img (l : List Nat) (o R C L : Nat) (T : Nat → Nat → Nat) (l' : List Nat) : Prop :=
  l'.length = l.length ∧ (∀ a, a < R → ∀ b, b < C → l'.getD (o + a + b * L) 0 = T a b) ∧ ∀ x, (∀ a, a < R → ∀ b, b < C → x ≠ o + a + b * L) → l'.getD x 0 = l.getD x 0
theorem Img.uniq {l : List Nat} {o R C L : Nat} {T T' : Nat → Nat → Nat} {m m' : List Nat} (h : Img l o R C L T m) (h' : Img l o R C L T' m') (e : ∀ a, a < R → ∀ b, b < C → T a b = T' a b) : m = m' := by
  refine ext_getD (h.1.trans h'.1.symm) fun x _ => ?_
  by_cases hx : ∃ a, a < R ∧ ∃ b, b < C ∧ x = o + a + b * L
  · obtain ⟨a, ha, b, hb, rfl⟩ := hx
    rw [h.2.1 a ha b hb, h'.2.1 a ha b hb, e a ha b hb]
  · have hx' : ∀ a, a < R → ∀ b, b < C → x ≠ o + a + b * L := fun a ha b hb e => hx ⟨a, ha, b, hb, e⟩
    rw [h.2.2 x hx', h'.2.2 x hx']
theorem Img.refl (l : List Nat) (o R C L : Nat) : Img l o R C L (fun a b => l.getD (o + a + b * L) 0) l := ⟨rfl, fun _ _ _ _ => rfl, fun _ _ => rfl⟩
theorem Img.trans {l m m' : List Nat} {o R C L : Nat} {T T' : Nat → Nat → Nat} (h : Img l o R C L T m) (h' : Img m o R C L T' m') : Img l o R C L T' m' :=
  ⟨h'.1.trans h.1, h'.2.1, fun x hx => (h'.2.2 x hx).trans (h.2.2 x hx)⟩
theorem Img.congr {l m : List Nat} {o R C L : Nat} {T T' : Nat → Nat → Nat} (h : Img l o R C L T m) (e : ∀ a, a < R → ∀ b, b < C → T a b = T' a b) : Img l o R C L T' m :=
  ⟨h.1, fun a ha b hb => (h.2.1 a ha b hb).trans (e a ha b hb), h.2.2⟩
theorem spots_inj {L a b a' b' : Nat} (ha : a < L) (ha' : a' < L) (h : a + b * L = a' + b' * L) : a = a' ∧ b = b' := by
  have h1 : (a + b * L) % L = a := by rw [Nat.add_mul_mod_self_right, Nat.mod_eq_of_lt ha]
  have h2 : (a' + b' * L) % L = a' := by rw [Nat.add_mul_mod_self_right, Nat.mod_eq_of_lt ha']
  have e : a = a' := by rw [← h1, h, h2]
  subst e
  have hL : 0 < L := Nat.lt_of_le_of_lt (Nat.zero_le _) ha
  have hm : b * L = b' * L := by omega
  exact ⟨rfl, Nat.eq_of_mul_eq_mul_right hL hm⟩
/-- The row that stands at a when rows i and j have changed places. -/
def sw (i j a : Nat) : Nat := if a = i then j else if a = j then i else a
theorem sw_lt {i j a R : Nat} (hi : i < R) (hj : j < R) (ha : a < R) : sw i j a < R := by unfold sw; split <;> (try split) <;> omega
end Go.Proofs.Ytcdhpoikppfjkaa
/-
The example; Great; Take. Conditions: as each says.
-/
set_option linter.unusedVariables false
namespace Go.Proofs.Ytcdhpoikppfjkaa
open Go.RowKit
attribute [local go_sem ↓] Go.wp_at_zero Go.wp_at_succ

/-- Is there more of a matrix than is looked at? -/
def greatB (n : Nat) (r k : Int) : Bool := decide (1000 < n) || decide (20 < r) || decide (20 < k)
theorem great_any (A : Option Addr) (n c : Nat) (off r k ld : Int) (w : World) : Calls Try.prog 6 #[mat A n c off r k ld] w fun e w' => e = .returned (.bool (greatB n r k)) ∧ Below w.heap.size w w' := by
  have hbel := fun (o : Obj) => (Below.refl w.heap.size w).alloc (Nat.le_refl _) o
  have e0 : decide ((1000 : Int) < (n : Int)) = decide (1000 < n) := decide_eq_decide.2 (by omega)
  unfold mat greatB
  by_cases h1 : (1000 : Int) < (n : Int)
  · have h2 : decide (1000 < n) = true := by simp; omega
    rw [h2]
    go_enter Try.func6, Try.ntmps6
    go_wp2_with fail
    go_ret
    exact ⟨by simp, hbel _⟩
  · have h2 : decide (1000 < n) = false := by simp; omega
    rw [h2]
    by_cases h3 : 20 < r
    · go_enter Try.func6, Try.ntmps6
      go_wp2_with fail
      go_ret
      exact ⟨by simp <;> omega, hbel _⟩
    · go_enter Try.func6, Try.ntmps6
      go_wp2_with fail
      go_ret
      exact ⟨by simp <;> omega, hbel _⟩
end Go.Proofs.Ytcdhpoikppfjkaa
/-
Take: rows that change places in an order. Conditions: as each says.
-/
set_option linter.unusedVariables false
namespace Go.Proofs.Ytcdhpoikppfjkaa
open Go.RowKit
attribute [local go_sem ↓] Go.wp_at_zero Go.wp_at_succ

/-- The row that stands at a when the first k changes of the order have been made. -/
def prm (zs : List Int) : Nat → Nat → Nat
  | 0, a => a
  | k + 1, a => prm zs k (sw k (zs.getD k 0).toNat a)
theorem Img.step {l m m' : List Nat} {o R C L i j : Nat} {zs : List Int} {q : Nat} (h : Img l o R C L (fun a b => l.getD (o + prm zs q a + b * L) 0) m) (h' : Img m o R C L (fun a b => m.getD (o + sw i j a + b * L) 0) m') (hi : i < R) (hj : j < R) :
    Img l o R C L (fun a b => l.getD (o + prm zs q (sw i j a) + b * L) 0) m' :=
  (h.trans h').congr fun a ha b hb => h.2.1 _ (sw_lt hi hj ha) b hb

end Go.Proofs.Ytcdhpoikppfjkaa
/-
List, Write: the document's numbers of a vector. Conditions: the vector is right, its list has at most 2^20 numbers.
-/
set_option linter.unusedVariables false
namespace Go.Proofs.Ytcdhpoikppfjkaa
open Go.RowKit
attribute [local go_sem ↓] Go.wp_at_zero Go.wp_at_succ

theorem wrap3 {o a P : Nat} (hP : P < 1048576) (h : o + a = P) : wrap64 (a : Int) = (a : Int) ∧ wrap64 (P : Int) = (P : Int) ∧ IntKind.i64.wrap (a : Int) = (a : Int) ∧ IntKind.i64.wrap (P : Int) = (P : Int) :=
  ⟨wrap_id (by unfold I64; omega), wrap_id (by unfold I64; omega), wrapi (by omega) (by omega), wrapi (by omega) (by omega)⟩
end Go.Proofs.Ytcdhpoikppfjkaa
/-
Sums: what they come to; a number of a vector; |x|; sums and products of two. Conditions: as each says.
-/
set_option linter.unusedVariables false
namespace Go.Proofs.Ytcdhpoikppfjkaa
open Go.RowKit
attribute [local go_sem ↓] Go.wp_at_zero Go.wp_at_succ

theorem is_zero : Is 0 0 := Is.refl (by omega)

end Go.Proofs.Ytcdhpoikppfjkaa
