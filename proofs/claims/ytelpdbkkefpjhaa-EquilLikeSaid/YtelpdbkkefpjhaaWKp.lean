/-
The document's answer for dyadic numbers: how they lie, floor, power.
-/
import Derived.Test.YtelpdbkkefpjhaaWKo
import Derived.Deep.CutBlock
import Derived.Laws.AppendOwn
import Derived.Test.YtelpdbkkefpjhaaWKa
set_option linter.unusedVariables false
namespace Go.Proofs.Ytelpdbkkefpjhaa
open Go.RowKit
attribute [local go_sem ↓] Go.wp_at_zero Go.wp_at_succ

def ints (l : List Nat) : List Value := l.map fun (d : Nat) => Value.int .i64 (d : Int)
theorem ints_get (l : List Nat) (i : Nat) (h : i < l.length) : (ints l)[i]? = some (.int .i64 (l[i] : Int)) := by simp [ints, h]
/-- The number that the digits to base 65536 make. -/
def rdy (neg : Bool) (l : List Nat) (e : Int) : Dyadic := dy (if neg then -(ofd 65536 l : Int) else (ofd 65536 l : Int)) (16 * e)
/-- Neither end is a nought. -/
def Neat (neg : Bool) (l : List Nat) (e : Int) : Prop := (l = [] ∧ neg = false ∧ e = 0) ∨ (l ≠ [] ∧ l.head? ≠ some 0 ∧ l.getLast? ≠ some 0)
/-- The block is one of ints. -/
def IntB (w : World) (b : Nat) : Prop := ∃ cs fr, w.heap[b]? = some (.cells cs 3 fr)
theorem IntB.lt {w : World} {b : Nat} (h : IntB w b) : b < w.heap.size := by
  obtain ⟨cs, fr, h⟩ := h
  exact (Array.getElem?_eq_some_iff.1 h).1
theorem IntB.below {w w' : World} {b : Nat} (h : IntB w b) (hb : Below w.heap.size w w') : IntB w' b := by
  obtain ⟨cs, fr, h1⟩ := h
  exact ⟨cs, fr, (hb.block b (IntB.lt ⟨cs, fr, h1⟩)).trans h1⟩
theorem IntB.ne {w : World} {b g : Nat} {t : TypeId} {cs : Array Value} (h : IntB w b) (hB : Blk w g t cs) (ht : t ≠ 3) : b ≠ g := by
  rintro rfl
  obtain ⟨cs', fr, h1⟩ := h
  unfold Blk at hB
  rw [h1] at hB
  injection hB with hB
  injection hB with _ e _
  exact ht e.symm
/-- The slice holds the digits. -/
def Rd (w : World) (A : Option Addr) (n c : Nat) (l : List Nat) : Prop := n = l.length ∧ n ≤ c ∧ Row w A (ints l) ∧ Digs 65536 l ∧ ∀ b y, A = some ⟨b, y, none⟩ → l ≠ [] → IntB w b
theorem Rd.below {w w' : World} {A : Option Addr} {n c : Nat} {l : List Nat} (h : Rd w A n c l) (hb : Below w.heap.size w w') : Rd w' A n c l := ⟨h.1, h.2.1, h.2.2.1.below hb, h.2.2.2.1, fun b y e hl => (h.2.2.2.2 b y e hl).below hb⟩
end Go.Proofs.Ytelpdbkkefpjhaa
/-
The document's answer for dyadic numbers: Made. Conditions: fewer than 2^40 digits, the exponent within 10^18.
-/
set_option linter.unusedVariables false
namespace Go.Proofs.Ytelpdbkkefpjhaa
open Go.RowKit
attribute [local go_sem ↓] Go.wp_at_zero Go.wp_at_succ

theorem Rd.last {w : World} {A : Option Addr} {n c : Nat} {d : Nat} {l : List Nat} (h : Rd w A n c (l ++ [d])) : ∃ b o, A = some ⟨b, o, none⟩ ∧ w.cell? ⟨b, o + l.length, none⟩ = some (.int .i64 (d : Int)) := by
  obtain ⟨b, o, e, _, hc⟩ := h.2.2.1.at_ (ints_get (l ++ [d]) l.length (by simp))
  exact ⟨b, o, e, by simpa using hc⟩

end Go.Proofs.Ytelpdbkkefpjhaa
/-
The document's answer for dyadic numbers: Whole, Int.
-/
set_option linter.unusedVariables false
namespace Go.Proofs.Ytelpdbkkefpjhaa
open Go.RowKit
attribute [local go_sem ↓] Go.wp_at_zero Go.wp_at_succ

theorem IntB.set_ {w : World} {b : Nat} (h : IntB w b) (p : Addr) (u : Value) : IntB (w.setCell p u) b := by
  obtain ⟨cs, fr, h1⟩ := h
  by_cases e : b = p.block
  · subst e
    unfold IntB World.setCell
    simp only [Array.getElem?_modify, h1]
    exact ⟨_, _, rfl⟩
  · exact ⟨cs, fr, (Below.heap_setCell w p u b e).trans h1⟩
end Go.Proofs.Ytelpdbkkefpjhaa
/-
The document's Shift of digits to base 65536: what each round leaves. Conditions: the shift is below 16.
-/
set_option linter.unusedVariables false
namespace Go.Proofs.Ytelpdbkkefpjhaa

/-- The list when i digits have been shifted by r. -/
def Sh (l : List Nat) (r i : Nat) (M : List Nat) : Prop := M.length = l.length + 1 ∧ Digs 65536 M ∧ M.getD i 0 < 2 ^ r ∧ (∀ j, i < j → M.getD j 0 = 0) ∧ ofd 65536 (M.take (i + 1)) = ofd 65536 (l.take i) * 2 ^ r
theorem Sh.zero (l : List Nat) (r : Nat) : Sh l r 0 (List.replicate (l.length + 1) 0) := by
  have hg : ∀ j, (List.replicate (l.length + 1) 0).getD j 0 = 0 := by
    intro j
    simp only [List.getD, List.getElem?_replicate]
    split <;> rfl
  refine ⟨by simp, Digs.replicate (by omega) _, by rw [hg]; exact Nat.pos_of_ne_zero (by simp), fun j _ => hg j, ?_⟩
  rw [List.take_replicate, ofd_replicate]; simp [ofd_nil]

/-- What a digit comes to, split at 65536. -/
theorem shift_room {d r c : Nat} (hd : d < 65536) (hr : r ≤ 15) (hc : c < 2 ^ r) : c + d * 2 ^ r % 65536 < 65536 ∧ d * 2 ^ r / 65536 < 2 ^ r := by
  have hp : 2 ^ r * 2 ^ (16 - r) = 65536 := by rw [← Nat.pow_add, show r + (16 - r) = 16 by omega]
  constructor
  · have h1 : d * 2 ^ r % 65536 = 2 ^ r * (d % 2 ^ (16 - r)) := by
      rw [← hp, Nat.mul_comm d, Nat.mul_mod_mul_left]
    rw [h1]
    have h2 : d % 2 ^ (16 - r) < 2 ^ (16 - r) := Nat.mod_lt _ (Nat.pos_of_ne_zero (by simp))
    have h3 : 2 ^ r * (d % 2 ^ (16 - r) + 1) ≤ 2 ^ r * 2 ^ (16 - r) := Nat.mul_le_mul_left _ h2
    rw [hp, Nat.mul_add, Nat.mul_one] at h3
    omega
  · rw [Nat.div_lt_iff_lt_mul (by omega), Nat.mul_comm (2 ^ r)]
    exact Nat.mul_lt_mul_of_pos_right hd (Nat.pos_of_ne_zero (by simp))

theorem Sh.step {l M : List Nat} {r i : Nat} (h : Sh l r i M) (hD : Digs 65536 l) (hi : i < l.length) (hr : r ≤ 15) :
    Sh l r (i + 1) ((M.set i (M.getD i 0 + l[i] * 2 ^ r % 65536)).set (i + 1) (l[i] * 2 ^ r / 65536)) := by
  obtain ⟨hl, hd, hc, hz, ho⟩ := h
  obtain ⟨r1, r2⟩ := shift_room (hD.get i hi) hr hc
  have hi1 : i + 1 < (M.set i (M.getD i 0 + l[i] * 2 ^ r % 65536)).length := by rw [List.length_set, hl]; omega
  have h3 : (2 : Nat) ^ r ≤ 2 ^ 15 := Nat.pow_le_pow_right (by omega) hr
  have h4 : l[i] * 2 ^ r / 65536 < 65536 := by omega
  refine ⟨by simp [hl], (hd.set i r1).set (i + 1) h4, ?_, ?_, ?_⟩
  · rw [List.getD, List.getElem?_set_self hi1]; exact r2
  · intro j hj
    rw [List.getD, List.getElem?_set_ne (by omega), List.getElem?_set_ne (by omega)]
    have := hz j (by omega)
    rwa [List.getD] at this
  · rw [ofd_take_set 65536 _ (i + 1) _ hi1, ofd_take_set 65536 M i _ (by omega), ofd_take_succ 65536 l i hi, Nat.add_mul, ← ho,
      ofd_take_succ 65536 M i (by omega)]
    have hg : M.getD i 0 = M[i]'(by omega) := by simp [List.getD, show i < M.length by omega]
    rw [hg]
    have hm := Nat.div_add_mod (l[i] * 2 ^ r) 65536
    generalize l[i] * 2 ^ r / 65536 = q at *
    generalize hx : l[i] * 2 ^ r % 65536 = m at *
    have hv : 65536 ^ i * l[i] * 2 ^ r = 65536 ^ i * m + 65536 ^ (i + 1) * q := by
      rw [Nat.mul_assoc, ← hm, Nat.mul_add, Nat.pow_succ, Nat.mul_assoc, Nat.add_comm]
    rw [hv, Nat.mul_add]
    omega
theorem Sh.done {l M : List Nat} {r : Nat} (h : Sh l r l.length M) : Digs 65536 M ∧ ofd 65536 M = ofd 65536 l * 2 ^ r := by
  obtain ⟨hl, hd, _, _, ho⟩ := h
  rw [List.take_of_length_le (by omega), List.take_of_length_le (Nat.le_refl _)] at ho
  exact ⟨hd, ho⟩
end Go.Proofs.Ytelpdbkkefpjhaa
