/-
Sums, differences, products, quotients of floats, as a walk has them: one word up to which NaN it is. Conditions: none.
-/
import Derived.Test.YtelpdbkkefpjhaaWSd
import Derived.Laws.FloatArith
import Derived.Deep.Draws
import Derived.Test.YtelpdbkkefpjhaaWSi
import Derived.Test.YtelpdbkkefpjhaaSInv
set_option linter.unusedVariables false
namespace Go.Proofs.Ytelpdbkkefpjhaa
open Go.RowKit

/-- r is the number z: the same word, or both are NaN. -/
def Is (r z : Nat) : Prop := r < 18446744073709551616 ∧ (r = z ∨ (Fl.nan r = true ∧ Fl.nan z = true))
theorem Is.lt {r z : Nat} (h : Is r z) : r < 18446744073709551616 := h.1
theorem Is.refl {r : Nat} (h : r < 18446744073709551616) : Is r r := ⟨h, .inl rfl⟩
theorem Is.same {r s z : Nat} (h : Is r z) (k : Is s z) : sameB r s = true := by
  unfold sameB
  rcases h with ⟨_, rfl | ⟨h1, h2⟩⟩ <;> rcases k with ⟨_, rfl | ⟨k1, k2⟩⟩ <;> simp_all
theorem Is.nan {r z : Nat} (h : Is r z) : Fl.nan r = Fl.nan z := by
  rcases h with ⟨_, rfl | ⟨h1, h2⟩⟩
  · rfl
  · rw [h1, h2]
theorem Is.trans {r s z : Nat} (h : Is r s) (k : Is s z) : Is r z := by
  refine ⟨h.1, ?_⟩
  rcases h with ⟨_, rfl | ⟨h1, h2⟩⟩
  · exact k.2
  · exact .inr ⟨h1, by rw [← k.nan]; exact h2⟩
/-- Is it a sum, a difference, a product, a quotient? -/
def isAr : BinOp → Bool | .add => true | .sub => true | .mul => true | .quo => true | _ => false
/-! ### As the walk has them. -/
/-- The NaN that the tape gives. -/
def tapeNan (w : World) (x y : Nat) : Nat := Question.cut (.nanBits .f64 x y) (w.tape w.drawn (.nanBits .f64 x y))
/-- What the operation gives in a world. -/
def fres (op : BinOp) (w : World) (x y : Nat) : Nat := (floatBits op .f64 x y).getD (tapeNan w x y)
/-- How often it asks the tape. -/
def fdrw (op : BinOp) (x y : Nat) : Nat := if (floatBits op .f64 x y).isSome then 0 else 1
theorem run_far (P : Program) (op : BinOp) (hop : isAr op = true) (t : TypeId) (x y : Nat) (w : World) : (binOp op t (.float .f64 x) (.float .f64 y)).run P w = .ok (.float .f64 (fres op w x y)) (w.drewN (fdrw op x y)) := by
  unfold fres fdrw
  cases h : floatBits op .f64 x y with
  | some r => exact run_float_arith w op t .f64 x y r h
  | none =>
    unfold floatBits at h
    cases op <;> simp only [isAr] at hop <;> first | (cases hop; done) | skip
    all_goals
      simp only at h
      simp only [binOp, Op.floatArith, h, tapeNan]
      rfl
theorem run_fadd (P : Program) (t : TypeId) (x y : Nat) (w : World) : (binOp .add t (.float .f64 x) (.float .f64 y)).run P w = .ok (.float .f64 (fres .add w x y)) (w.drewN (fdrw .add x y)) := run_far P .add rfl t x y w
theorem run_fsub (P : Program) (t : TypeId) (x y : Nat) (w : World) : (binOp .sub t (.float .f64 x) (.float .f64 y)).run P w = .ok (.float .f64 (fres .sub w x y)) (w.drewN (fdrw .sub x y)) := run_far P .sub rfl t x y w
theorem run_fmul (P : Program) (t : TypeId) (x y : Nat) (w : World) : (binOp .mul t (.float .f64 x) (.float .f64 y)).run P w = .ok (.float .f64 (fres .mul w x y)) (w.drewN (fdrw .mul x y)) := run_far P .mul rfl t x y w
theorem run_fquo (P : Program) (t : TypeId) (x y : Nat) (w : World) : (binOp .quo t (.float .f64 x) (.float .f64 y)).run P w = .ok (.float .f64 (fres .quo w x y)) (w.drewN (fdrw .quo x y)) := run_far P .quo rfl t x y w
attribute [go_sem] run_fadd run_fsub run_fmul run_fquo
end Go.Proofs.Ytelpdbkkefpjhaa
/-
The document's Asum, Most, Dot. Conditions: the lists have at most 2^20 numbers.
-/
set_option linter.unusedVariables false
set_option linter.unusedSimpArgs false
set_option linter.unnecessarySimpa false
namespace Go.Proofs.Ytelpdbkkefpjhaa
open Go.RowKit
attribute [local go_sem ↓] Go.wp_at_zero Go.wp_at_succ

theorem getD_wds {l : List Nat} (h : Wds l) (k : Nat) : l.getD k 0 < 18446744073709551616 := by
  rcases Nat.lt_or_ge k l.length with h1 | h1
  · rw [getD_of_lt h1]; exact h.at_ k h1
  · rw [getD_of_le h1]; omega
theorem Row.get0 {w : World} {A : Option Addr} {l : List Nat} {k : Nat} (h : Row w A (f64s l)) (hk : k < l.length) : ∃ b o, A = some ⟨b, o, none⟩ ∧ w.cell? ⟨b, o + k, none⟩ = some (.float .f64 (l.getD k 0)) := by
  obtain ⟨b, o, e, _, hc⟩ := h.at_ (f64s_get l k hk)
  exact ⟨b, o, e, by rw [getD_of_lt hk]; exact hc⟩

end Go.Proofs.Ytelpdbkkefpjhaa
/-
The document's Rows of a table. Conditions: the table has at most 2^40 numbers.
-/
set_option linter.unusedVariables false
namespace Go.Proofs.Ytelpdbkkefpjhaa
open Go.RowKit
attribute [local go_sem ↓] Go.wp_at_zero Go.wp_at_succ

theorem tab_inj {C a b a' b' : Nat} (hb : b < C) (hb' : b' < C) (h : a * C + b = a' * C + b') : a = a' ∧ b = b' := by
  have h1 : (a * C + b) % C = b := by rw [Nat.mul_add_mod_self_right, Nat.mod_eq_of_lt hb]
  have h2 : (a' * C + b') % C = b' := by rw [Nat.mul_add_mod_self_right, Nat.mod_eq_of_lt hb']
  have e : b = b' := by rw [← h1, h, h2]
  subst e
  have hm : a * C = a' * C := by omega
  exact ⟨Nat.eq_of_mul_eq_mul_right (by omega) hm, rfl⟩
/-- The first q columns have changed rows i and k. -/
def Half (T : List Nat) (i k R C q : Nat) (T' : List Nat) : Prop := T'.length = T.length ∧ ∀ a, a < R → ∀ b, b < C → T'.getD (a * C + b) 0 = if b < q then T.getD (sw i k a * C + b) 0 else T.getD (a * C + b) 0
theorem Half.zero (T : List Nat) (i k R C : Nat) : Half T i k R C 0 T := ⟨rfl, fun a _ b _ => by simp⟩
theorem Half.step {T T' : List Nat} {i k R C q : Nat} (h : Half T i k R C q T') (hi : i < R) (hk : k < R) (hq : q < C) (hT : T.length = R * C) :
    Half T i k R C (q + 1) ((T'.set (i * C + q) (T'.getD (k * C + q) 0)).set (k * C + q) (T'.getD (i * C + q) 0)) := by
  refine ⟨by rw [List.length_set, List.length_set]; exact h.1, fun a ha b hb => ?_⟩
  have hli := tab_lt hi hq
  have hlk := tab_lt hk hq
  have hx := h.2 i hi q hq
  have hy := h.2 k hk q hq
  rw [if_neg (by omega)] at hx hy
  have hl := h.1
  by_cases e : b = q
  · subst e
    rw [if_pos (by omega)]
    by_cases e1 : a = k
    · subst e1
      rw [getD_set_self (by rw [List.length_set]; omega), hx]
      have : sw i a a = i := by
        unfold sw
        by_cases h2 : a = i
        · rw [if_pos h2]; exact h2
        · rw [if_neg h2, if_pos rfl]
      rw [this]
    · rw [getD_set_ne _ (fun e2 => e1 (tab_inj hq hq e2).1.symm)]
      by_cases e2 : a = i
      · subst e2
        rw [getD_set_self (by omega), hy]
        have : sw a k a = k := by unfold sw; rw [if_pos rfl]
        rw [this]
      · rw [getD_set_ne _ (fun e3 => e2 (tab_inj hq hq e3).1.symm), h.2 a ha b hb, if_neg (by omega)]
        have : sw i k a = a := by unfold sw; rw [if_neg e2, if_neg e1]
        rw [this]
  · rw [getD_set_ne _ (fun e2 => e (tab_inj hq hb e2).2.symm), getD_set_ne _ (fun e2 => e (tab_inj hq hb e2).2.symm), h.2 a ha b hb]
    by_cases h2 : b < q
    · rw [if_pos h2, if_pos (by omega)]
    · rw [if_neg h2, if_neg (by omega)]

end Go.Proofs.Ytelpdbkkefpjhaa
/-
The document's Take of a table. Conditions: the table has at most 2^20 numbers.
-/
set_option linter.unusedVariables false
namespace Go.Proofs.Ytelpdbkkefpjhaa
open Go.RowKit
attribute [local go_sem ↓] Go.wp_at_zero Go.wp_at_succ

/-- The table's rows stand as the first q changes of the order have it. -/
def Prm (T : List Nat) (zs : List Int) (R C q : Nat) (T' : List Nat) : Prop := T'.length = T.length ∧ ∀ a, a < R → ∀ b, b < C → T'.getD (a * C + b) 0 = T.getD (prm zs q a * C + b) 0
theorem Prm.step {T T' T2 : List Nat} {zs : List Int} {R C q j : Nat} (h : Prm T zs R C q T') (h2 : Half T' q j R C C T2) (hq : q < R) (hj : j < R) (e : ∀ a, prm zs (q + 1) a = prm zs q (sw q j a)) : Prm T zs R C (q + 1) T2 :=
  ⟨h2.1.trans h.1, fun a ha b hb => by
    rw [h2.2 a ha b hb, if_pos hb, h.2 _ (sw_lt hq hj ha) b hb, e]⟩

end Go.Proofs.Ytelpdbkkefpjhaa
/-
The document's Into: a list with a table at a matrix' places. Conditions: the matrix is right, its list and the table have at most 2^20 numbers.
-/
set_option linter.unusedVariables false
set_option linter.unusedSimpArgs false
namespace Go.Proofs.Ytelpdbkkefpjhaa
open Go.RowKit
attribute [local go_sem ↓] Go.wp_at_zero Go.wp_at_succ

/-- The list has the table T at the matrix' first places, by rows, and is else as it was. -/
def Pim (l : List Nat) (o R C L : Nat) (T : Nat → Nat → Nat) (a b : Nat) (l' : List Nat) : Prop :=
  l'.length = l.length ∧ (∀ i, i < R → ∀ j, j < C → l'.getD (o + i + j * L) 0 = if i < a ∨ (i = a ∧ j < b) then T i j else l.getD (o + i + j * L) 0) ∧ ∀ x, (∀ i, i < R → ∀ j, j < C → x ≠ o + i + j * L) → l'.getD x 0 = l.getD x 0
theorem Pim.zero (l : List Nat) (o R C L : Nat) (T : Nat → Nat → Nat) : Pim l o R C L T 0 0 l := ⟨rfl, fun i _ j _ => by rw [if_neg (by omega)], fun _ _ => rfl⟩
theorem Pim.next {l l' : List Nat} {o R C L : Nat} {T : Nat → Nat → Nat} {a : Nat} (h : Pim l o R C L T a C l') : Pim l o R C L T (a + 1) 0 l' :=
  ⟨h.1, fun i hi j hj => by
    rw [h.2.1 i hi j hj]
    by_cases e : i < a ∨ (i = a ∧ j < C)
    · rw [if_pos e, if_pos (by omega)]
    · rw [if_neg e, if_neg (by omega)], h.2.2⟩
theorem Pim.done {l l' : List Nat} {o R C L : Nat} {T : Nat → Nat → Nat} (h : Pim l o R C L T R 0 l') : Img l o R C L T l' :=
  ⟨h.1, fun i hi j hj => by rw [h.2.1 i hi j hj, if_pos (.inl hi)], h.2.2⟩
theorem Pim.step {l l' : List Nat} {o R C L : Nat} {T : Nat → Nat → Nat} {a b : Nat} (h : Pim l o R C L T a b l') (hR : R ≤ L) (ha : a < R) (hb : b < C) (hP : o + a + b * L < l.length) : Pim l o R C L T a (b + 1) (l'.set (o + a + b * L) (T a b)) := by
  refine ⟨by rw [List.length_set]; exact h.1, fun i hi j hj => ?_, fun x hx => ?_⟩
  · by_cases e : i = a ∧ j = b
    · obtain ⟨rfl, rfl⟩ := e
      rw [getD_set_self (by rw [h.1]; exact hP), if_pos (by omega)]
    · rw [getD_set_ne _ (fun e2 => e (by
        have := spots_inj (L := L) (a := a) (b := b) (a' := i) (b' := j) (by omega) (by omega) (by omega)
        exact ⟨this.1.symm, this.2.symm⟩)), h.2.1 i hi j hj]
      by_cases e1 : i < a ∨ (i = a ∧ j < b)
      · rw [if_pos e1, if_pos (by omega)]
      · rw [if_neg e1, if_neg (by omega)]
  · rw [getD_set_ne _ (fun e => hx a ha b hb e.symm), h.2.2 x hx]
end Go.Proofs.Ytelpdbkkefpjhaa
