/-
Dyadic numbers as m times 2^e. Conditions: as each says.
-/
import Derived.KernelRfl
import Derived.Test.YtbjopdnfjjcpoaaRows
import Derived.WalkKit
import Derived.Below
import Derived.Laws.Rows
import Derived.Deep.Draws
import Derived.Laws.OwnMore
import Derived.Lib.Hide
set_option linter.unusedVariables false
namespace Go.Proofs.Ytbjopdnfjjcpoaa

/-- m times 2^e. -/
def dy (m e : Int) : Dyadic := Dyadic.ofIntWithPrec m (-e)

theorem dy_toRat (m e : Int) : (dy m e).toRat = m * 2 ^ e := by
  unfold dy; rw [Dyadic.toRat_ofIntWithPrec_eq_mul_two_pow, Int.neg_neg]
theorem dy_zero (e : Int) : dy 0 e = 0 := rfl
theorem dy_neg (m e : Int) : -dy m e = dy (-m) e := Dyadic.neg_ofIntWithPrec
theorem two_ne : (2 : Rat) ≠ 0 := by decide
theorem dy_add (m n e : Int) : dy m e + dy n e = dy (m + n) e := by
  rw [← Dyadic.toRat_inj, Dyadic.toRat_add, dy_toRat, dy_toRat, dy_toRat, Rat.intCast_add, Rat.add_mul]
theorem dy_mul (m n e f : Int) : dy m e * dy n f = dy (m * n) (e + f) := by
  rw [← Dyadic.toRat_inj, Dyadic.toRat_mul, dy_toRat, dy_toRat, dy_toRat, Rat.intCast_mul, Rat.zpow_add two_ne]
  grind
theorem dy_pow (m e : Int) (k : Nat) : dy (m * 2 ^ k) e = dy m (e + k) := by
  rw [← Dyadic.toRat_inj, dy_toRat, dy_toRat, Rat.intCast_mul, Rat.zpow_add two_ne, Rat.zpow_natCast, Rat.intCast_pow]
  have : ((2 : Int) : Rat) = 2 := rfl
  rw [this]
  grind
theorem dy_sub (m n e : Int) : dy m e - dy n e = dy (m - n) e := by
  show dy m e + -dy n e = _
  rw [dy_neg, dy_add, Int.sub_eq_add_neg]
theorem dy_lt (m n e : Int) : dy m e < dy n e ↔ m < n := by
  rw [← Dyadic.toRat_lt_toRat_iff, dy_toRat, dy_toRat]
  have h : (0 : Rat) < 2 ^ e := Rat.zpow_pos (by decide)
  constructor
  · intro hl
    have := Rat.lt_of_mul_lt_mul_right hl (Rat.le_of_lt h)
    exact Rat.intCast_lt_intCast.1 this
  · intro hl
    exact Rat.mul_lt_mul_of_pos_right (Rat.intCast_lt_intCast.2 hl) h
theorem dy_eq (m n e : Int) : dy m e = dy n e ↔ m = n := by
  constructor
  · intro h
    have h1 := dy_lt m n e
    have h2 := dy_lt n m e
    rw [h] at h1 h2
    have i1 : ¬ dy n e < dy n e := by rw [← Dyadic.toRat_lt_toRat_iff]; exact Rat.lt_irrefl
    have j1 : ¬ m < n := fun hh => i1 (h1.2 hh)
    have j2 : ¬ n < m := fun hh => i1 (h2.2 hh)
    omega
  · rintro rfl; rfl
theorem dy_eq_zero (m e : Int) : dy m e = 0 ↔ m = 0 := by rw [← dy_zero e, dy_eq]
/-- The m and the e of the canonical form. -/
def mant : Dyadic → Int | .zero => 0 | .ofOdd n _ _ => n
def expo : Dyadic → Int | .zero => 0 | .ofOdd _ k _ => -k
theorem dy_mant (d : Dyadic) : dy (mant d) (expo d) = d := by
  cases d with
  | zero => rfl
  | ofOdd n k h => simp only [mant, expo, dy, Int.neg_neg]; exact Dyadic.ofOdd_eq_ofIntWithPrec.symm
theorem mant_zero : mant 0 = 0 := rfl
theorem expo_zero : expo 0 = 0 := rfl
theorem mant_eq_zero (d : Dyadic) : mant d = 0 ↔ d = 0 := by
  cases d with
  | zero => simp [mant]
  | ofOdd n k h => simp [mant]; omega
theorem mant_odd (d : Dyadic) (h : d ≠ 0) : mant d % 2 = 1 := by
  cases d with
  | zero => exact absurd rfl h
  | ofOdd n k h' => exact h'
theorem dy_odd (m e : Int) (h : m % 2 = 1) : dy m e = .ofOdd m (-e) h := (Dyadic.ofOdd_eq_ofIntWithPrec).symm
theorem mant_dy (m e : Int) (h : m % 2 = 1) : mant (dy m e) = m := by rw [dy_odd m e h]; rfl
theorem expo_dy (m e : Int) (h : m % 2 = 1) : expo (dy m e) = e := by rw [dy_odd m e h]; simp [expo]
theorem mant_neg (d : Dyadic) : mant (-d) = -mant d := by cases d <;> rfl
theorem expo_neg (d : Dyadic) : expo (-d) = expo d := by cases d <;> rfl
end Go.Proofs.Ytbjopdnfjjcpoaa
/-
Digits of a number to a base, the lowest first. Conditions: as each says.
-/
set_option linter.unusedVariables false
namespace Go.Proofs.Ytbjopdnfjjcpoaa

/-- The number of digits to base B, the lowest first. -/
def ofd (B : Nat) : List Nat → Nat
  | [] => 0
  | d :: l => d + B * ofd B l
/-- The digits, none at the end that is 0. -/
def digs (B n : Nat) : List Nat := if _h : n = 0 ∨ B < 2 then [] else n % B :: digs B (n / B)
  termination_by n
  decreasing_by exact Nat.div_lt_self (by omega) (by omega)

theorem ofd_nil (B : Nat) : ofd B [] = 0 := rfl
theorem ofd_cons (B d : Nat) (l : List Nat) : ofd B (d :: l) = d + B * ofd B l := rfl
theorem digs_zero (B : Nat) : digs B 0 = [] := by rw [digs]; simp
theorem digs_pos {B n : Nat} (hB : 2 ≤ B) (h : n ≠ 0) : digs B n = n % B :: digs B (n / B) := by rw [digs, dif_neg (by omega)]
theorem ofd_digs {B : Nat} (hB : 2 ≤ B) (n : Nat) : ofd B (digs B n) = n := by
  induction n using Nat.strongRecOn with
  | ind n ih =>
    by_cases h : n = 0
    · subst h; rw [digs_zero]; rfl
    · rw [digs_pos hB h, ofd_cons, ih _ (Nat.div_lt_self (by omega) (by omega))]
      exact Nat.mod_add_div n B
theorem ofd_append (B : Nat) (l m : List Nat) : ofd B (l ++ m) = ofd B l + B ^ l.length * ofd B m := by
  induction l with
  | nil => simp [ofd]
  | cons d l ih => rw [List.cons_append, ofd_cons, ofd_cons, ih, List.length_cons, Nat.pow_succ]; grind
theorem ofd_replicate (B n : Nat) : ofd B (List.replicate n 0) = 0 := by
  induction n with
  | zero => rfl
  | succ n ih => rw [List.replicate_succ, ofd_cons, ih]; simp
/-- All digits are below B. -/
def Digs (B : Nat) (l : List Nat) : Prop := ∀ d ∈ l, d < B
theorem Digs.nil (B : Nat) : Digs B [] := fun _ h => by cases h
theorem Digs.cons {B d : Nat} {l : List Nat} (h : d < B) (hl : Digs B l) : Digs B (d :: l) := fun x hx => by
  rcases List.mem_cons.1 hx with rfl | hx
  · exact h
  · exact hl x hx
theorem Digs.tail {B d : Nat} {l : List Nat} (h : Digs B (d :: l)) : Digs B l := fun x hx => h x (List.mem_cons_of_mem _ hx)
theorem Digs.head {B d : Nat} {l : List Nat} (h : Digs B (d :: l)) : d < B := h d List.mem_cons_self
theorem Digs.append {B : Nat} {l m : List Nat} (h : Digs B l) (k : Digs B m) : Digs B (l ++ m) := fun x hx => by
  rcases List.mem_append.1 hx with hx | hx
  · exact h x hx
  · exact k x hx
theorem Digs.take {B : Nat} {l : List Nat} (h : Digs B l) (n : Nat) : Digs B (l.take n) := fun x hx => h x (List.mem_of_mem_take hx)
theorem Digs.drop {B : Nat} {l : List Nat} (h : Digs B l) (n : Nat) : Digs B (l.drop n) := fun x hx => h x (List.mem_of_mem_drop hx)
theorem Digs.set {B : Nat} {l : List Nat} (h : Digs B l) (i : Nat) {d : Nat} (hd : d < B) : Digs B (l.set i d) := fun x hx => by
  rcases List.mem_or_eq_of_mem_set hx with hx | rfl
  · exact h x hx
  · exact hd
theorem Digs.replicate {B : Nat} (hB : 0 < B) (n : Nat) : Digs B (List.replicate n 0) := fun x hx => by
  rw [List.mem_replicate] at hx; omega
theorem Digs.get {B : Nat} {l : List Nat} (h : Digs B l) (i : Nat) (hi : i < l.length) : l[i] < B := h _ (List.getElem_mem hi)
theorem digs_lt {B : Nat} (hB : 2 ≤ B) (n : Nat) : Digs B (digs B n) := by
  induction n using Nat.strongRecOn with
  | ind n ih =>
    by_cases h : n = 0
    · subst h; rw [digs_zero]; exact Digs.nil B
    · rw [digs_pos hB h]; exact Digs.cons (Nat.mod_lt _ (by omega)) (ih _ (Nat.div_lt_self (by omega) (by omega)))
theorem ofd_lt {B : Nat} {l : List Nat} (h : Digs B l) : ofd B l < B ^ l.length := by
  induction l with
  | nil => simp [ofd]
  | cons d l ih =>
    have h1 := ih h.tail
    have h2 := h.head
    rw [ofd_cons, List.length_cons, Nat.pow_succ]
    have : B * (ofd B l + 1) ≤ B * B ^ l.length := Nat.mul_le_mul_left B h1
    rw [Nat.mul_comm (B ^ l.length) B]
    rw [Nat.mul_add] at this
    omega
/-- The list of digits of a number is the one without noughts at its end. -/
theorem digs_ofd {B : Nat} (hB : 2 ≤ B) {l : List Nat} (h : Digs B l) (hl : l.getLast? ≠ some 0) : digs B (ofd B l) = l := by
  induction l with
  | nil => rw [ofd_nil, digs_zero]
  | cons d l ih =>
    have hd := h.head
    have ht : l.getLast? ≠ some 0 := by
      cases l with
      | nil => simp
      | cons e l => simpa [List.getLast?_cons_cons] using hl
    have h0 : ofd B (d :: l) ≠ 0 := by
      intro e
      rw [ofd_cons] at e
      have e1 : d = 0 := by omega
      have e2 : B * ofd B l = 0 := by omega
      have e3 : ofd B l = 0 := by rcases Nat.mul_eq_zero.1 e2 with h | h <;> omega
      cases l with
      | nil => subst e1; exact hl rfl
      | cons x l =>
        have := ih h.tail ht
        rw [e3, digs_zero] at this
        cases this
    rw [digs_pos hB h0, ofd_cons]
    have m1 : (d + B * ofd B l) % B = d := by rw [Nat.add_mul_mod_self_left]; exact Nat.mod_eq_of_lt hd
    have m2 : (d + B * ofd B l) / B = ofd B l := by rw [Nat.add_mul_div_left _ _ (by omega), Nat.div_eq_of_lt hd, Nat.zero_add]
    rw [m1, m2, ih h.tail ht]
theorem digs_last {B : Nat} (hB : 2 ≤ B) (n : Nat) : (digs B n).getLast? ≠ some 0 := by
  induction n using Nat.strongRecOn with
  | ind n ih =>
    by_cases h : n = 0
    · subst h; rw [digs_zero]; simp
    · rw [digs_pos hB h]
      have := ih (n / B) (Nat.div_lt_self (by omega) (by omega))
      by_cases hq : n / B = 0
      · rw [hq, digs_zero]
        have : n % B = n := Nat.mod_eq_of_lt ((Nat.div_eq_zero_iff_lt (by omega)).1 hq)
        simp; omega
      · rw [digs_pos hB hq] at this ⊢
        rw [List.getLast?_cons_cons]; exact this
theorem digs_length_le {B : Nat} (hB : 2 ≤ B) (n k : Nat) : (digs B n).length ≤ k ↔ n < B ^ k := by
  induction k generalizing n with
  | zero =>
    by_cases h : n = 0
    · subst h; rw [digs_zero]; simp
    · rw [digs_pos hB h]; simp; omega
  | succ k ih =>
    by_cases h : n = 0
    · subst h; rw [digs_zero]; simp; exact Nat.pow_pos (by omega)
    · rw [digs_pos hB h, List.length_cons, Nat.add_le_add_iff_right, ih, Nat.div_lt_iff_lt_mul (by omega), Nat.pow_succ]
theorem digs_eq_nil {B : Nat} (hB : 2 ≤ B) (n : Nat) : digs B n = [] ↔ n = 0 := by
  constructor
  · intro h
    have := ofd_digs hB n
    rw [h] at this; exact this.symm
  · rintro rfl; exact digs_zero B
theorem ofd_take_drop (B : Nat) (l : List Nat) (k : Nat) (hk : k ≤ l.length) : ofd B l = ofd B (l.take k) + B ^ k * ofd B (l.drop k) := by
  have := ofd_append B (l.take k) (l.drop k)
  rw [List.take_append_drop, List.length_take, Nat.min_eq_left hk] at this
  exact this
theorem ofd_drop {B : Nat} (hB : 2 ≤ B) {l : List Nat} (h : Digs B l) (k : Nat) (hk : k ≤ l.length) : ofd B (l.drop k) = ofd B l / B ^ k := by
  have h1 := ofd_take_drop B l k hk
  have h2 := ofd_lt (h.take k)
  rw [List.length_take, Nat.min_eq_left hk] at h2
  rw [h1, Nat.add_mul_div_left _ _ (Nat.pow_pos (by omega)), Nat.div_eq_of_lt h2, Nat.zero_add]
theorem ofd_get {B : Nat} (hB : 2 ≤ B) {l : List Nat} (h : Digs B l) (k : Nat) : l.getD k 0 = ofd B l / B ^ k % B := by
  by_cases hk : k < l.length
  · rw [← ofd_drop hB h k (by omega), List.drop_eq_getElem_cons hk, ofd_cons, Nat.add_mul_mod_self_left, Nat.mod_eq_of_lt (h.get k hk)]
    simp [List.getD, List.getElem?_eq_getElem hk]
  · have h1 := ofd_lt h
    have h2 : B ^ l.length ≤ B ^ k := Nat.pow_le_pow_right (by omega) (by omega)
    rw [Nat.div_eq_of_lt (by omega)]
    simp [List.getD, List.getElem?_eq_none (Nat.le_of_not_lt hk)]
theorem ofd_snoc (B : Nat) (l : List Nat) (d : Nat) : ofd B (l ++ [d]) = ofd B l + B ^ l.length * d := by rw [ofd_append]; simp [ofd]
theorem ofd_take_succ (B : Nat) (l : List Nat) (k : Nat) (hk : k < l.length) : ofd B (l.take (k + 1)) = ofd B (l.take k) + B ^ k * l[k] := by
  rw [List.take_succ_eq_append_getElem hk, ofd_snoc, List.length_take, Nat.min_eq_left (by omega)]
theorem ofd_drop_succ (B : Nat) (l : List Nat) (k : Nat) (hk : k < l.length) : ofd B (l.drop k) = l[k] + B * ofd B (l.drop (k + 1)) := by
  rw [List.drop_eq_getElem_cons hk, ofd_cons]
theorem ofd_set (B : Nat) (l : List Nat) (i v : Nat) (hi : i < l.length) : ofd B (l.set i v) + B ^ i * l[i] = ofd B l + B ^ i * v := by
  induction l generalizing i with
  | nil => simp at hi
  | cons d l ih =>
    cases i with
    | zero => simp [List.set, ofd_cons]; omega
    | succ i =>
      have := ih i (by simpa using hi)
      simp only [List.set_cons_succ, ofd_cons, List.getElem_cons_succ, Nat.pow_succ]
      have e1 : B ^ i * B * l[i]'(by simpa using hi) = B * (B ^ i * l[i]'(by simpa using hi)) := by grind
      have e2 : B ^ i * B * v = B * (B ^ i * v) := by grind
      rw [e1, e2]
      have e3 : B * (ofd B (l.set i v) + B ^ i * l[i]'(by simpa using hi)) = B * (ofd B l + B ^ i * v) := by rw [this]
      rw [Nat.mul_add, Nat.mul_add] at e3
      omega
theorem ofd_take_set (B : Nat) (l : List Nat) (i v : Nat) (hi : i < l.length) : ofd B ((l.set i v).take (i + 1)) = ofd B (l.take i) + B ^ i * v := by
  have h : (l.set i v).take (i + 1) = l.take i ++ [v] := by
    rw [List.take_succ_eq_append_getElem (by simpa using hi), List.take_set_of_le (Nat.le_refl _)]; simp
  rw [h, ofd_snoc, List.length_take, Nat.min_eq_left (by omega)]
theorem drop_set_succ (l : List Nat) (i v : Nat) : (l.set i v).drop (i + 1) = l.drop (i + 1) := by rw [List.drop_set_of_lt (by omega)]
theorem ofd_take_all (B : Nat) (l : List Nat) (k : Nat) (h : l.length ≤ k) : ofd B (l.take k) = ofd B l := by rw [List.take_of_length_le h]
theorem ofd_take_eq_mod {B : Nat} (hB : 2 ≤ B) {l : List Nat} (h : Digs B l) (k : Nat) : ofd B (l.take k) = ofd B l % B ^ k := by
  by_cases hk : k ≤ l.length
  · have h2 := ofd_lt (h.take k)
    rw [List.length_take, Nat.min_eq_left hk] at h2
    rw [ofd_take_drop B l k hk, Nat.add_mul_mod_self_left, Nat.mod_eq_of_lt h2]
  · have h1 := ofd_lt h
    have h2 : B ^ l.length ≤ B ^ k := Nat.pow_le_pow_right (by omega) (by omega)
    rw [ofd_take_all _ _ _ (by omega), Nat.mod_eq_of_lt (by omega)]
/-- Without the noughts at the end: the list of digits. -/
theorem take_trim {B : Nat} (hB : 2 ≤ B) {l : List Nat} (h : Digs B l) (n : Nat) (hn : n ≤ l.length) (hz : ∀ i, n ≤ i → i < l.length → l.getD i 0 = 0) (hl : n = 0 ∨ l.getD (n - 1) 0 ≠ 0) : l.take n = digs B (ofd B l) := by
  have e : ofd B l = ofd B (l.take n) := by
    rw [ofd_take_drop B l n hn]
    have : l.drop n = List.replicate (l.length - n) 0 := by
      refine List.ext_getElem? fun i => ?_
      rw [List.getElem?_drop]
      by_cases hi : i < l.length - n
      · have := hz (n + i) (by omega) (by omega)
        rw [List.getElem?_eq_getElem (by omega), List.getElem?_eq_getElem (by simpa using hi), List.getElem_replicate]
        simp [List.getD, List.getElem?_eq_getElem (show n + i < l.length by omega)] at this
        rw [this]
      · rw [List.getElem?_eq_none (by omega), List.getElem?_eq_none (by simpa using hi)]
    rw [this, ofd_replicate]; simp
  rw [e, digs_ofd hB (h.take n)]
  rw [List.getLast?_eq_getElem?, List.length_take, Nat.min_eq_left hn, List.getElem?_take]
  by_cases h0 : n = 0
  · subst h0; simp
  · rw [if_pos (by omega)]
    intro e2
    rcases hl with hl | hl
    · exact h0 hl
    · simp [List.getD, e2] at hl
theorem digs_mono {B : Nat} (hB : 2 ≤ B) {m n : Nat} (h : m ≤ n) : (digs B m).length ≤ (digs B n).length := by
  rw [digs_length_le hB]
  exact Nat.lt_of_le_of_lt h ((digs_length_le hB n _).1 (Nat.le_refl _))
theorem digs_get_zero {B : Nat} (hB : 2 ≤ B) (n i : Nat) : (digs B n).getD i 0 = n / B ^ i % B := by
  rw [ofd_get hB (digs_lt hB n), ofd_digs hB]
theorem digs_pow_le {B : Nat} (hB : 2 ≤ B) {n : Nat} (h : n ≠ 0) : B ^ ((digs B n).length - 1) ≤ n := by
  rcases Nat.lt_or_ge n (B ^ ((digs B n).length - 1)) with hlt | hge
  · have := (digs_length_le hB n _).2 hlt
    have h2 : (digs B n).length ≠ 0 := fun e => h ((digs_eq_nil hB n).1 (List.eq_nil_of_length_eq_zero e))
    omega
  · exact hge
theorem digs_lt_pow {B : Nat} (hB : 2 ≤ B) (n : Nat) : n < B ^ (digs B n).length := (digs_length_le hB n _).1 (Nat.le_refl _)
theorem digs_length_add {B : Nat} (hB : 2 ≤ B) (m n : Nat) : (digs B (m + n)).length ≤ max (digs B m).length (digs B n).length + 1 := by
  rw [digs_length_le hB, Nat.pow_succ]
  have h1 := digs_lt_pow hB m
  have h2 := digs_lt_pow hB n
  have p1 : B ^ (digs B m).length ≤ B ^ max (digs B m).length (digs B n).length := Nat.pow_le_pow_right (by omega) (Nat.le_max_left _ _)
  have p2 : B ^ (digs B n).length ≤ B ^ max (digs B m).length (digs B n).length := Nat.pow_le_pow_right (by omega) (Nat.le_max_right _ _)
  have := Nat.mul_le_mul_left (B ^ max (digs B m).length (digs B n).length) hB
  omega
theorem digs_length_mul {B : Nat} (hB : 2 ≤ B) (m n : Nat) : (digs B (m * n)).length ≤ (digs B m).length + (digs B n).length := by
  rw [digs_length_le hB, Nat.pow_add]
  exact Nat.mul_lt_mul'' (digs_lt_pow hB m) (digs_lt_pow hB n)
end Go.Proofs.Ytbjopdnfjjcpoaa
/-
Words for memory: a slice that reads as a list; whole numbers and dyadic numbers as the program keeps them. Conditions: none.
-/
set_option linter.unusedVariables false
namespace Go.Proofs.Ytbjopdnfjjcpoaa
open Go.RowKit

theorem below_drewN {B : Nat} {a w : World} (h : Below B a w) (n : Nat) : Below B a (w.drewN n) := ⟨h.os, h.tape, h.output, h.size, h.block⟩
theorem block_lt {w : World} {b o : Nat} {v : Value} (h : w.cell? ⟨b, o, none⟩ = some v) : b < w.heap.size := by
  rcases Nat.lt_or_ge b w.heap.size with hl | hl
  · exact hl
  · simp [World.cell?, Array.getElem?_eq_none hl] at h
/-- The slice's cells are the list. -/
def Row (w : World) (A : Option Addr) (xs : List Value) : Prop := xs = [] ∨ ∃ b o, A = some ⟨b, o, none⟩ ∧ ∀ i v, xs[i]? = some v → w.cell? ⟨b, o + i, none⟩ = some v
theorem Row.nil (w : World) (A : Option Addr) : Row w A [] := .inl rfl
theorem Row.at_ {w : World} {A : Option Addr} {xs : List Value} {i : Nat} {v : Value} (h : Row w A xs) (hi : xs[i]? = some v) :
    ∃ b o, A = some ⟨b, o, none⟩ ∧ b < w.heap.size ∧ w.cell? ⟨b, o + i, none⟩ = some v := by
  rcases h with rfl | ⟨b, o, e, hc⟩
  · simp at hi
  · exact ⟨b, o, e, block_lt (hc i v hi), hc i v hi⟩
theorem Row.below {w w' : World} {A : Option Addr} {xs : List Value} (h : Row w A xs) (hb : Below w.heap.size w w') : Row w' A xs := by
  rcases h with rfl | ⟨b, o, e, hc⟩
  · exact .inl rfl
  · exact .inr ⟨b, o, e, fun i v hi => (hb.cell (p := ⟨b, o + i, none⟩) (block_lt (hc i v hi))).trans (hc i v hi)⟩
theorem Row.drewN {w : World} {A : Option Addr} {xs : List Value} (h : Row w A xs) (n : Nat) : Row (w.drewN n) A xs := h
/-- A cell below the block is as it was. -/
theorem cell_below {w w' : World} {b o : Nat} {v : Value} (h : w.cell? ⟨b, o, none⟩ = some v) (hb : Below w.heap.size w w') : w'.cell? ⟨b, o, none⟩ = some v := (hb.cell (p := ⟨b, o, none⟩) (block_lt h)).trans h

/-- Block g of the world is just these cells, none of them frozen. -/
def Blk (w : World) (g : Nat) (t : TypeId) (cs : Array Value) : Prop := w.heap[g]? = some (.cells cs t (0, 0))
section
variable {w w' : World} {g : Nat} {t : TypeId} {cs : Array Value}
theorem Blk.lt (h : Blk w g t cs) : g < w.heap.size := by
  rcases Nat.lt_or_ge g w.heap.size with hl | hl
  · exact hl
  · unfold Blk at h; rw [Array.getElem?_eq_none hl] at h; cases h
theorem Blk.cell (h : Blk w g t cs) (i : Nat) : w.cell? ⟨g, i, none⟩ = cs[i]? := cell_of_row w g i cs t (0, 0) h
theorem Blk.frozen (h : Blk w g t cs) (i : Nat) : w.frozen? ⟨g, i, none⟩ = false := by
  unfold Blk at h
  simp [World.frozen?, h]
theorem Blk.new (w : World) (t : TypeId) (cs : Array Value) : Blk (w.alloc (.cells cs t)) w.heap.size t cs := heap_alloc_new w _
theorem Blk.alloc (h : Blk w g t cs) (o : Obj) : Blk (w.alloc o) g t cs := (Below.heap_alloc w o g h.lt).trans h
theorem Blk.set_ (h : Blk w g t cs) (i : Nat) (u : Value) : Blk (w.setCell ⟨g, i, none⟩ u) g t (cs.setIfInBounds i u) := by
  unfold Blk at h ⊢
  simp [World.setCell, Array.getElem?_modify, h]
theorem Blk.other (h : Blk w g t cs) {p : Addr} (hp : g ≠ p.block) (u : Value) : Blk (w.setCell p u) g t cs := (Below.heap_setCell w p u g hp).trans h
theorem Blk.below {B : Nat} (h : Blk w g t cs) (hb : Below B w w') (hg : g < B) : Blk w' g t cs := (hb.block g hg).trans h
theorem Blk.drewN (h : Blk w g t cs) (n : Nat) : Blk (w.drewN n) g t cs := h
theorem Blk.drew (h : Blk w g t cs) : Blk w.drew g t cs := h
theorem Blk.store2 {x y : Value} (h : Blk w g t #[x, y]) (u v : Value) : Blk ((w.setCell ⟨g, 0, none⟩ u).setCell ⟨g, 1, none⟩ v) g t #[u, v] := by
  simpa using (h.set_ 0 u).set_ 1 v
theorem Blk.store4 {x0 x1 x2 x3 : Value} (h : Blk w g t #[x0, x1, x2, x3]) (u0 u1 u2 u3 : Value) : Blk ((((w.setCell ⟨g, 0, none⟩ u0).setCell ⟨g, 1, none⟩ u1).setCell ⟨g, 2, none⟩ u2).setCell ⟨g, 3, none⟩ u3) g t #[u0, u1, u2, u3] := by
  simpa using (((h.set_ 0 u0).set_ 1 u1).set_ 2 u2).set_ 3 u3
theorem Blk.new_ (w : World) (t : TypeId) (cs : Array Value) (n : Nat) (hn : w.heap.size = n) : Blk (w.alloc (.cells cs t)) n t cs := by subst hn; exact heap_alloc_new w _
end

/-- 2^64. -/
def Q : Nat := 18446744073709551616
theorem Q_val : Q = 18446744073709551616 := rfl
theorem Q_two : 2 ≤ Q := by unfold Q; omega
theorem Q_pow : Q = 2 ^ 64 := rfl
/-- The words of a list of digits. -/
def u64s (l : List Nat) : List Value := l.map fun (d : Nat) => Value.int .u64 (d : Int)
theorem u64s_get (l : List Nat) (i : Nat) (h : i < l.length) : (u64s l)[i]? = some (.int .u64 (l[i] : Int)) := by simp [u64s, h]
theorem u64s_get? {l : List Nat} {i : Nat} {v : Value} (h : (u64s l)[i]? = some v) : ∃ hi : i < l.length, v = .int .u64 (l[i] : Int) := by
  unfold u64s at h
  rw [List.getElem?_map] at h
  rcases Nat.lt_or_ge i l.length with hl | hl
  · rw [List.getElem?_eq_getElem hl] at h
    exact ⟨hl, by simpa using h.symm⟩
  · rw [List.getElem?_eq_none hl] at h; cases h
theorem u64s_length (l : List Nat) : (u64s l).length = l.length := by simp [u64s]
/-- The words of a number's size. -/
def dig (z : Int) : List Nat := digs Q z.natAbs
/-- How many they are. -/
def wl (z : Int) : Nat := (dig z).length
/-- Is it below 0? -/
def ng (z : Int) : Bool := decide (z < 0)
theorem ofd_dig (z : Int) : ofd Q (dig z) = z.natAbs := ofd_digs Q_two _
theorem dig_lt (z : Int) : Digs Q (dig z) := digs_lt Q_two _
theorem dig_zero : dig 0 = [] := digs_zero Q
theorem wl_zero (z : Int) : wl z = 0 ↔ z = 0 := by
  unfold wl dig
  rw [List.length_eq_zero_iff, digs_eq_nil Q_two]; omega
theorem dig_neg (z : Int) : dig (-z) = dig z := by unfold dig; rw [Int.natAbs_neg]
theorem wl_neg (z : Int) : wl (-z) = wl z := by unfold wl; rw [dig_neg]
theorem wl_le (z : Int) (k : Nat) : wl z ≤ k ↔ z.natAbs < Q ^ k := digs_length_le Q_two _ _

/-- No word is among the values. -/
def NoInt (cs : Array Value) : Prop := ∀ (i : Nat) (k : IntKind) (n : Int), cs[i]? ≠ some (.int k n)
theorem Row.ne_ {w : World} {A : Option Addr} {l : List Nat} (h : Row w A (u64s l)) {g : Nat} {t : TypeId} {cs : Array Value} (hB : Blk w g t cs) (hn : NoInt cs) :
    l = [] ∨ ∃ b o, A = some ⟨b, o, none⟩ ∧ b ≠ g ∧ ∀ i v, (u64s l)[i]? = some v → w.cell? ⟨b, o + i, none⟩ = some v := by
  rcases h with h | ⟨b, o, e, hc⟩
  · exact .inl (by simpa [u64s] using h)
  · cases l with
    | nil => exact .inl rfl
    | cons d l =>
      refine .inr ⟨b, o, e, ?_, hc⟩
      rintro rfl
      have h0 := hc 0 _ rfl
      rw [Nat.add_zero, hB.cell o] at h0
      exact hn _ _ _ h0
/-- What lies in other blocks stays. -/
theorem Row.far {w w' : World} {A : Option Addr} {l : List Nat} (h : Row w A (u64s l)) {g : Nat} {t : TypeId} {cs : Array Value} (hB : Blk w g t cs) (hn : NoInt cs)
    (hk : ∀ b o, b ≠ g → b < w.heap.size → w'.cell? ⟨b, o, none⟩ = w.cell? ⟨b, o, none⟩) : Row w' A (u64s l) := by
  rcases h.ne_ hB hn with rfl | ⟨b, o, e, hne, hc⟩
  · exact .inl rfl
  · exact .inr ⟨b, o, e, fun i v hi => (hk b (o + i) hne (block_lt (hc i v hi))).trans (hc i v hi)⟩
theorem cell_set {w : World} {b o g i : Nat} (h : b ≠ g) (u : Value) : (w.setCell ⟨g, i, none⟩ u).cell? ⟨b, o, none⟩ = w.cell? ⟨b, o, none⟩ :=
  World.cell?_setCell_other w ⟨g, i, none⟩ ⟨b, o, none⟩ u (fun e => h (by injection e with e1; exact e1.symm))
theorem noInt2 (a : Bool) (A : Option Addr) (n c : Nat) : NoInt #[.bool a, .slice A n c] := by
  intro i k m h
  match i with
  | 0 => simp at h
  | 1 => simp at h
  | i + 2 => simp at h
theorem noInt4 (a a' : Bool) (A A' : Option Addr) (n c n' c' : Nat) : NoInt #[.bool a, .slice A n c, .bool a', .slice A' n' c'] := by
  intro i k m h
  match i with
  | 0 => simp at h
  | 1 => simp at h
  | 2 => simp at h
  | 3 => simp at h
  | i + 4 => simp at h

/-- The slice of n words, with room for c, is the size of the whole number z. -/
def Wh (w : World) (A : Option Addr) (n c : Nat) (z : Int) : Prop := n = wl z ∧ n ≤ c ∧ Row w A (u64s (dig z))
theorem Wh.below {w w' : World} {A : Option Addr} {n c : Nat} {z : Int} (h : Wh w A n c z) (hb : Below w.heap.size w w') : Wh w' A n c z := ⟨h.1, h.2.1, h.2.2.below hb⟩
theorem Wh.neg {w : World} {A : Option Addr} {n c : Nat} {z : Int} (h : Wh w A n c z) : Wh w A n c (-z) := ⟨by rw [wl_neg]; exact h.1, h.2.1, by rw [dig_neg]; exact h.2.2⟩
theorem Wh.zero (w : World) (A : Option Addr) (c : Nat) : Wh w A 0 c 0 := ⟨((wl_zero 0).2 rfl).symm, Nat.zero_le _, by rw [dig_zero]; exact .inl rfl⟩
theorem Wh.far {w w' : World} {A : Option Addr} {n c : Nat} {z : Int} (h : Wh w A n c z) {g : Nat} {t : TypeId} {cs : Array Value} (hB : Blk w g t cs) (hn : NoInt cs)
    (hk : ∀ b o, b ≠ g → b < w.heap.size → w'.cell? ⟨b, o, none⟩ = w.cell? ⟨b, o, none⟩) : Wh w' A n c z := ⟨h.1, h.2.1, h.2.2.far hB hn hk⟩
/-- A whole number that is laid into its place. -/
theorem Wh.store2 {w : World} {A : Option Addr} {n c : Nat} {z : Int} (h : Wh w A n c z) {g : Nat} {t : TypeId} {a : Bool} {A' : Option Addr} {n' c' : Nat} (hB : Blk w g t #[.bool a, .slice A' n' c']) (u v : Value) :
    Wh ((w.setCell ⟨g, 0, none⟩ u).setCell ⟨g, 1, none⟩ v) A n c z :=
  h.far hB (noInt2 _ _ _ _) fun b o hne _ => by rw [cell_set hne, cell_set hne]
theorem Wh.store4 {w : World} {A : Option Addr} {n c : Nat} {z : Int} (h : Wh w A n c z) {g : Nat} {t : TypeId} {a a' : Bool} {A' A'' : Option Addr} {n' c' n'' c'' : Nat} (hB : Blk w g t #[.bool a, .slice A' n' c', .bool a', .slice A'' n'' c'']) (u v x y : Value) :
    Wh ((((w.setCell ⟨g, 0, none⟩ u).setCell ⟨g, 1, none⟩ v).setCell ⟨g, 2, none⟩ x).setCell ⟨g, 3, none⟩ y) A n c z :=
  h.far hB (noInt4 _ _ _ _ _ _ _ _) fun b o hne _ => by rw [cell_set hne, cell_set hne, cell_set hne, cell_set hne]
theorem RetW_def (z : Int) (w : World) (a : Bool) (A : Option Addr) (n c : Nat) (w' : World) (ha : a = ng z) (h : Wh w' A n c z) (hb : Below w.heap.size w w') :
    (∃ A' n' c', Ending.returned (.agg #[.bool a, .slice A n c]) = .returned (.agg #[.bool (ng z), .slice A' n' c']) ∧ Wh w' A' n' c' z ∧ Below w.heap.size w w') := by
  subst ha; exact ⟨A, n, c, rfl, h, hb⟩
/-- The call returned the whole number z. -/
def RetW (z : Int) (w : World) (e : Ending) (w' : World) : Prop := ∃ A n c, e = .returned (.agg #[.bool (ng z), .slice A n c]) ∧ Wh w' A n c z ∧ Below w.heap.size w w'
/-- The two slices are the m and the e of the dyadic number d. -/
def Dr (w : World) (A : Option Addr) (n c : Nat) (A' : Option Addr) (n' c' : Nat) (d : Dyadic) : Prop := Wh w A n c (mant d) ∧ Wh w A' n' c' (expo d)
theorem Dr.below {w w' : World} {A : Option Addr} {n c : Nat} {A' : Option Addr} {n' c' : Nat} {d : Dyadic} (h : Dr w A n c A' n' c' d) (hb : Below w.heap.size w w') : Dr w' A n c A' n' c' d := ⟨h.1.below hb, h.2.below hb⟩
/-- The call returned the dyadic number d. -/
def RetD (d : Dyadic) (w : World) (e : Ending) (w' : World) : Prop :=
  ∃ A n c A' n' c', e = .returned (.agg #[.bool (ng (mant d)), .slice A n c, .bool (ng (expo d)), .slice A' n' c']) ∧ Dr w' A n c A' n' c' d ∧ Below w.heap.size w w'
/-- Only block g has changed. -/
def Only (g : Nat) (w w' : World) : Prop := w.grownBy w' (some g)
theorem Only.refl (g : Nat) (w : World) : Only g w w := World.grownBy.refl w _
theorem Only.set_ {g : Nat} {w w' : World} (h : Only g w w') (i : Nat) (u : Value) : Only g w (w'.setCell ⟨g, i, none⟩ u) :=
  ⟨h.os, h.tape, h.output, by simpa [World.setCell] using h.size, fun k hk hne => (Below.heap_setCell w' _ u k (fun e => hne (by rw [e]))).trans (h.block k hk hne)⟩
theorem Only.drew {g : Nat} {w w' : World} (h : Only g w w') : Only g w w'.drew := ⟨h.os, h.tape, h.output, h.size, h.block⟩
theorem Only.drewN {g : Nat} {w w' : World} (h : Only g w w') (n : Nat) : Only g w (w'.drewN n) := ⟨h.os, h.tape, h.output, h.size, h.block⟩
theorem Only.trans {g : Nat} {a b c : World} (h : Only g a b) (k : Only g b c) : Only g a c :=
  ⟨k.os.trans h.os, k.tape.trans h.tape, k.output.trans h.output, Nat.le_trans h.size k.size, fun i hi hne => (k.block i (Nat.lt_of_lt_of_le hi h.size) hne).trans (h.block i hi hne)⟩
theorem Only.cell {g : Nat} {w w' : World} (h : Only g w w') {b o : Nat} {v : Value} (hb : b ≠ g) (hc : w.cell? ⟨b, o, none⟩ = some v) : w'.cell? ⟨b, o, none⟩ = some v :=
  (World.cell?_of_block (a := ⟨b, o, none⟩) (h.block b (block_lt hc) (fun e => hb (by injection e)))).trans hc
theorem Only.row {g : Nat} {w w' : World} (h : Only g w w') {A : Option Addr} {xs : List Value} (hA : ∀ b o, A = some ⟨b, o, none⟩ → b ≠ g) (hr : Row w A xs) : Row w' A xs := by
  rcases hr with rfl | ⟨b, o, e, hc⟩
  · exact .inl rfl
  · exact .inr ⟨b, o, e, fun i v hi => h.cell (hA b o e) (hc i v hi)⟩
theorem Only.blk {g : Nat} {w w' : World} (h : Only g w w') {b : Nat} {t : TypeId} {cs : Array Value} (hb : b ≠ g) (hB : Blk w b t cs) : Blk w' b t cs :=
  (h.block b hB.lt (fun e => hb (by injection e))).trans hB
theorem Only.below {g : Nat} {w0 w w' : World} (h : Only g w w') {B : Nat} (hb : Below B w0 w) (hB : B ≤ w.heap.size) (hg : B ≤ g) : Below B w0 w' :=
  hb.grown h hB (fun k hk => by injection hk with hk; omega)
theorem below_nx {w W w' : World} (h : Below w.heap.size w W) (hb : Below W.heap.size W w') : Below w.heap.size w w' := h.trans (hb.mono h.size)
theorem below_al {w W : World} (h : Below w.heap.size w W) {o : Obj} : Below w.heap.size w (W.alloc o) := h.alloc h.size o
theorem below_one {W : World} {o : Obj} : Below W.heap.size W (W.alloc o) := (Below.refl _ _).alloc (Nat.le_refl _) o
theorem ownsRow_below {Z : Nat} {w w' : World} {e : TypeId} {n k : Nat} {v : Value} {xs : List Value} (h : w.ownsRow Z e k v n xs) (hb : Below w.heap.size w w') : w'.ownsRow Z e k v n xs :=
  h.kept (row := none) ⟨hb.os, hb.tape, hb.output, hb.size, fun k hk _ => hb.block k hk⟩ (by cases v.ownBlock <;> simp)

end Go.Proofs.Ytbjopdnfjjcpoaa
