/-
Dyadic numbers as m times 2^e. Conditions: as each says.
-/
import Derived.KernelRfl
set_option linter.unusedVariables false
namespace Go.Proofs.Ytelpdbkkefpjhaa

/-- m times 2^e. -/
def dy (m e : Int) : Dyadic := Dyadic.ofIntWithPrec m (-e)

theorem dy_toRat (m e : Int) : (dy m e).toRat = m * 2 ^ e := by
  unfold dy; rw [Dyadic.toRat_ofIntWithPrec_eq_mul_two_pow, Int.neg_neg]
theorem dy_zero (e : Int) : dy 0 e = 0 := rfl
theorem dy_neg (m e : Int) : -dy m e = dy (-m) e := Dyadic.neg_ofIntWithPrec
theorem two_ne : (2 : Rat) ≠ 0 := by decide
theorem dy_add (m n e : Int) : dy m e + dy n e = dy (m + n) e := by
  rw [← Dyadic.toRat_inj, Dyadic.toRat_add, dy_toRat, dy_toRat, dy_toRat, Rat.intCast_add, Rat.add_mul]
theorem dy_mul (m n e f : Int) : dy m e * dy n f = dy (m * n) (e + f) := by
  rw [← Dyadic.toRat_inj, Dyadic.toRat_mul, dy_toRat, dy_toRat, dy_toRat, Rat.intCast_mul, Rat.zpow_add two_ne]
  grind
theorem dy_pow (m e : Int) (k : Nat) : dy (m * 2 ^ k) e = dy m (e + k) := by
  rw [← Dyadic.toRat_inj, dy_toRat, dy_toRat, Rat.intCast_mul, Rat.zpow_add two_ne, Rat.zpow_natCast, Rat.intCast_pow]
  have : ((2 : Int) : Rat) = 2 := rfl
  rw [this]
  grind
/-- The m and the e of the canonical form. -/
def mant : Dyadic → Int | .zero => 0 | .ofOdd n _ _ => n
def expo : Dyadic → Int | .zero => 0 | .ofOdd _ k _ => -k
end Go.Proofs.Ytelpdbkkefpjhaa
/-
Digits of a number to a base, the lowest first. Conditions: as each says.
-/
set_option linter.unusedVariables false
namespace Go.Proofs.Ytelpdbkkefpjhaa

/-- The number of digits to base B, the lowest first. -/
def ofd (B : Nat) : List Nat → Nat
  | [] => 0
  | d :: l => d + B * ofd B l
/-- The digits, none at the end that is 0. -/
def digs (B n : Nat) : List Nat := if _h : n = 0 ∨ B < 2 then [] else n % B :: digs B (n / B)
  termination_by n
  decreasing_by exact Nat.div_lt_self (by omega) (by omega)

theorem ofd_nil (B : Nat) : ofd B [] = 0 := rfl
theorem ofd_cons (B d : Nat) (l : List Nat) : ofd B (d :: l) = d + B * ofd B l := rfl
theorem digs_zero (B : Nat) : digs B 0 = [] := by rw [digs]; simp
theorem digs_pos {B n : Nat} (hB : 2 ≤ B) (h : n ≠ 0) : digs B n = n % B :: digs B (n / B) := by rw [digs, dif_neg (by omega)]
theorem ofd_digs {B : Nat} (hB : 2 ≤ B) (n : Nat) : ofd B (digs B n) = n := by
  induction n using Nat.strongRecOn with
  | ind n ih =>
    by_cases h : n = 0
    · subst h; rw [digs_zero]; rfl
    · rw [digs_pos hB h, ofd_cons, ih _ (Nat.div_lt_self (by omega) (by omega))]
      exact Nat.mod_add_div n B
theorem ofd_append (B : Nat) (l m : List Nat) : ofd B (l ++ m) = ofd B l + B ^ l.length * ofd B m := by
  induction l with
  | nil => simp [ofd]
  | cons d l ih => rw [List.cons_append, ofd_cons, ofd_cons, ih, List.length_cons, Nat.pow_succ]; grind
theorem ofd_replicate (B n : Nat) : ofd B (List.replicate n 0) = 0 := by
  induction n with
  | zero => rfl
  | succ n ih => rw [List.replicate_succ, ofd_cons, ih]; simp
/-- All digits are below B. -/
def Digs (B : Nat) (l : List Nat) : Prop := ∀ d ∈ l, d < B
theorem Digs.nil (B : Nat) : Digs B [] := fun _ h => by cases h
theorem Digs.cons {B d : Nat} {l : List Nat} (h : d < B) (hl : Digs B l) : Digs B (d :: l) := fun x hx => by
  rcases List.mem_cons.1 hx with rfl | hx
  · exact h
  · exact hl x hx
theorem Digs.head {B d : Nat} {l : List Nat} (h : Digs B (d :: l)) : d < B := h d List.mem_cons_self
theorem Digs.take {B : Nat} {l : List Nat} (h : Digs B l) (n : Nat) : Digs B (l.take n) := fun x hx => h x (List.mem_of_mem_take hx)
theorem Digs.drop {B : Nat} {l : List Nat} (h : Digs B l) (n : Nat) : Digs B (l.drop n) := fun x hx => h x (List.mem_of_mem_drop hx)
theorem Digs.set {B : Nat} {l : List Nat} (h : Digs B l) (i : Nat) {d : Nat} (hd : d < B) : Digs B (l.set i d) := fun x hx => by
  rcases List.mem_or_eq_of_mem_set hx with hx | rfl
  · exact h x hx
  · exact hd
theorem Digs.replicate {B : Nat} (hB : 0 < B) (n : Nat) : Digs B (List.replicate n 0) := fun x hx => by
  rw [List.mem_replicate] at hx; omega
theorem Digs.get {B : Nat} {l : List Nat} (h : Digs B l) (i : Nat) (hi : i < l.length) : l[i] < B := h _ (List.getElem_mem hi)
theorem digs_eq_nil {B : Nat} (hB : 2 ≤ B) (n : Nat) : digs B n = [] ↔ n = 0 := by
  constructor
  · intro h
    have := ofd_digs hB n
    rw [h] at this; exact this.symm
  · rintro rfl; exact digs_zero B
theorem ofd_snoc (B : Nat) (l : List Nat) (d : Nat) : ofd B (l ++ [d]) = ofd B l + B ^ l.length * d := by rw [ofd_append]; simp [ofd]
theorem ofd_take_succ (B : Nat) (l : List Nat) (k : Nat) (hk : k < l.length) : ofd B (l.take (k + 1)) = ofd B (l.take k) + B ^ k * l[k] := by
  rw [List.take_succ_eq_append_getElem hk, ofd_snoc, List.length_take, Nat.min_eq_left (by omega)]
theorem ofd_set (B : Nat) (l : List Nat) (i v : Nat) (hi : i < l.length) : ofd B (l.set i v) + B ^ i * l[i] = ofd B l + B ^ i * v := by
  induction l generalizing i with
  | nil => simp at hi
  | cons d l ih =>
    cases i with
    | zero => simp [List.set, ofd_cons]; omega
    | succ i =>
      have := ih i (by simpa using hi)
      simp only [List.set_cons_succ, ofd_cons, List.getElem_cons_succ, Nat.pow_succ]
      have e1 : B ^ i * B * l[i]'(by simpa using hi) = B * (B ^ i * l[i]'(by simpa using hi)) := by grind
      have e2 : B ^ i * B * v = B * (B ^ i * v) := by grind
      rw [e1, e2]
      have e3 : B * (ofd B (l.set i v) + B ^ i * l[i]'(by simpa using hi)) = B * (ofd B l + B ^ i * v) := by rw [this]
      rw [Nat.mul_add, Nat.mul_add] at e3
      omega
theorem ofd_take_set (B : Nat) (l : List Nat) (i v : Nat) (hi : i < l.length) : ofd B ((l.set i v).take (i + 1)) = ofd B (l.take i) + B ^ i * v := by
  have h : (l.set i v).take (i + 1) = l.take i ++ [v] := by
    rw [List.take_succ_eq_append_getElem (by simpa using hi), List.take_set_of_le (Nat.le_refl _)]; simp
  rw [h, ofd_snoc, List.length_take, Nat.min_eq_left (by omega)]
theorem drop_set_succ (l : List Nat) (i v : Nat) : (l.set i v).drop (i + 1) = l.drop (i + 1) := by rw [List.drop_set_of_lt (by omega)]
theorem ofd_take_all (B : Nat) (l : List Nat) (k : Nat) (h : l.length ≤ k) : ofd B (l.take k) = ofd B l := by rw [List.take_of_length_le h]
end Go.Proofs.Ytelpdbkkefpjhaa
