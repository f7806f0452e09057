/-
The document's Asum, Most, Dot. Conditions: the lists have at most 2^20 numbers.
-/
import Derived.Test.YtcdhpoikppfjkaaWaai
import Derived.Test.YtcdhpoikppfjkaaZYGvD0
set_option linter.unusedVariables false
set_option linter.unusedSimpArgs false
set_option linter.unnecessarySimpa false
namespace Go.Proofs.Ytcdhpoikppfjkaa
open Go.RowKit
attribute [local go_sem ↓] Go.wp_at_zero Go.wp_at_succ

theorem getD_wds {l : List Nat} (h : Wds l) (k : Nat) : l.getD k 0 < 18446744073709551616 := by
  rcases Nat.lt_or_ge k l.length with h1 | h1
  · rw [getD_of_lt h1]; exact h.at_ k h1
  · rw [getD_of_le h1]; omega
end Go.Proofs.Ytcdhpoikppfjkaa
/-
Gemv: Mul, MulT, Abs. Conditions: as each says.
-/
set_option linter.unusedVariables false
set_option linter.unusedSimpArgs false
set_option linter.unnecessarySimpa false
namespace Go.Proofs.Ytcdhpoikppfjkaa
open Go.RowKit
attribute [local go_sem ↓] Go.wp_at_zero Go.wp_at_succ

/-- A list in memory has a matrix' numbers, a vector's, whatever else it has. -/
def MLst (W : World) (g n : Nat) (l : List Nat) (o R C L : Nat) : Prop := ∃ l', Own W g l' ∧ l'.length = n ∧ Wds l' ∧ ∀ a, a < R → ∀ b, b < C → l'.getD (o + b * L + a) 0 = l.getD (o + b * L + a) 0
def VLst (W : World) (g n : Nat) (l : List Nat) (o K i : Nat) : Prop := ∃ l', Own W g l' ∧ l'.length = n ∧ Wds l' ∧ ∀ q, q < K → l'.getD (o + q * i) 0 = l.getD (o + q * i) 0
theorem MLst.nxt {W W' : World} {g n : Nat} {l : List Nat} {o R C L : Nat} (h : MLst W g n l o R C L) (hb : Below W.heap.size W W') : MLst W' g n l o R C L := by
  obtain ⟨l', h1, h2⟩ := h; exact ⟨l', h1.nxt hb, h2⟩
theorem VLst.nxt {W W' : World} {g n : Nat} {l : List Nat} {o K i : Nat} (h : VLst W g n l o K i) (hb : Below W.heap.size W W') : VLst W' g n l o K i := by
  obtain ⟨l', h1, h2⟩ := h; exact ⟨l', h1.nxt hb, h2⟩
theorem wds_set {l : List Nat} (h : Wds l) (p : Nat) {v : Nat} (hv : v < 18446744073709551616) : Wds (l.set p v) := by
  intro b hb
  rcases List.mem_or_eq_of_mem_set hb with h1 | h1
  · exact h b h1
  · subst h1; exact hv
theorem getD_set_far {l : List Nat} {p j v : Nat} (h : j ≠ p) : (l.set p v).getD j 0 = l.getD j 0 := by
  simp [List.getD, List.getElem?_set_ne (fun e => h e.symm)]
theorem MLst.set_ {W : World} {g g' n n' p v : Nat} {l : List Nat} {o R C L : Nat} (h : MLst W g n l o R C L) (hp : g = g' → p < n) (hv : v < 18446744073709551616) (hd : g = g' → ∀ a, a < R → ∀ b, b < C → o + b * L + a ≠ p) : MLst (W.setCell ⟨g', p, none⟩ (.float .f64 v)) g n l o R C L := by
  obtain ⟨l', h1, h2, h3, h4⟩ := h
  by_cases e : g = g'
  · subst e
    refine ⟨l'.set p v, h1.set_ p v (by rw [h2]; exact hp rfl), by rw [List.length_set, h2], wds_set h3 p hv, fun a ha b hb => ?_⟩
    rw [getD_set_far (hd rfl a ha b hb)]
    exact h4 a ha b hb
  · exact ⟨l', h1.other e _, h2, h3, h4⟩
theorem VLst.set_ {W : World} {g g' n n' p v : Nat} {l : List Nat} {o K i : Nat} (h : VLst W g n l o K i) (hp : g = g' → p < n) (hv : v < 18446744073709551616) (hd : g = g' → ∀ q, q < K → o + q * i ≠ p) : VLst (W.setCell ⟨g', p, none⟩ (.float .f64 v)) g n l o K i := by
  obtain ⟨l', h1, h2, h3, h4⟩ := h
  by_cases e : g = g'
  · subst e
    refine ⟨l'.set p v, h1.set_ p v (by rw [h2]; exact hp rfl), by rw [List.length_set, h2], wds_set h3 p hv, fun q hq => ?_⟩
    rw [getD_set_far (hd rfl q hq)]
    exact h4 q hq
  · exact ⟨l', h1.other e _, h2, h3, h4⟩
/-- What a number is then. -/
def MulQ (a b : Nat) (l : List Nat) (o i : Nat) (lm : List Nat) (om C L : Nat) (lx : List Nat) (ox ix q r : Nat) : Prop := ∃ s, BegR b (l.getD (o + q * i) 0) s ∧ Chn (ColS (MulR a) lm om L lx ox ix q) s C r
end Go.Proofs.Ytcdhpoikppfjkaa
