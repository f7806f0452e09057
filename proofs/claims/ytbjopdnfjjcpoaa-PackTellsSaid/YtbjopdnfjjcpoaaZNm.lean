/-
Numbers of a matrix, column by column. Conditions: the matrix is right, its list has at most 2^20 numbers.
-/
import Derived.Test.YtbjopdnfjjcpoaaZMwC
import Derived.OwnWalk
set_option linter.unusedVariables false
set_option linter.unusedSimpArgs false
namespace Go.Proofs.Ytbjopdnfjjcpoaa
open Go.RowKit
attribute [local go_sem ↓] Go.wp_at_zero Go.wp_at_succ

/-- The numbers of the first columns, column by column. -/
def colsL (l : List Nat) (o R L : Nat) : Nat → List Nat
  | 0 => []
  | j + 1 => colsL l o R L j ++ lst l (o + j * L) 1 R
theorem colsL_length (l : List Nat) (o R L : Nat) : ∀ j, (colsL l o R L j).length = j * R
  | 0 => by simp [colsL]
  | j + 1 => by rw [colsL, List.length_append, colsL_length l o R L j, lst_length, Nat.add_mul]; omega
theorem colsL_getD (l : List Nat) (o R L : Nat) {a b : Nat} (ha : a < R) : ∀ {j : Nat}, b < j → (colsL l o R L j).getD (b * R + a) 0 = l.getD (o + a + b * L) 0
  | 0, h => by omega
  | j + 1, h => by
    have hlen := colsL_length l o R L j
    rw [colsL]
    by_cases hb : b < j
    · have h1 : b * R + a < j * R := by
        have : (b + 1) * R ≤ j * R := Nat.mul_le_mul_right _ (by omega)
        rw [Nat.add_mul] at this; omega
      rw [List.getD_eq_getElem?_getD, List.getElem?_append_left (by omega), ← List.getD_eq_getElem?_getD]
      exact colsL_getD l o R L ha hb
    · obtain rfl : b = j := by omega
      rw [List.getD_eq_getElem?_getD, List.getElem?_append_right (by omega), ← List.getD_eq_getElem?_getD, hlen, show b * R + a - b * R = a by omega, lst_getD l _ 1 ha]
      congr 1
      omega
theorem mat_size {n o R C L : Nat} (hR : R ≤ L) (hr : R = 0 ∨ C = 0 ∨ o + (C - 1) * L + (R - 1) < n) : R * C ≤ n := by
  by_cases h0 : R = 0
  · subst h0; simp
  by_cases h1 : C = 0
  · subst h1; simp
  have h2 : (C - 1) * R ≤ (C - 1) * L := Nat.mul_le_mul_left _ hR
  have h3 : R * C = (C - 1) * R + R := by
    obtain ⟨C', rfl⟩ : ∃ C', C = C' + 1 := ⟨C - 1, by omega⟩
    rw [Nat.add_sub_cancel, Nat.mul_add, Nat.mul_comm]; omega
  omega
theorem colsL_wds {l : List Nat} (h : Wds l) (o R L : Nat) : ∀ j, Wds (colsL l o R L j)
  | 0 => by intro b hb; cases hb
  | j + 1 => by
    intro b hb
    rw [colsL, List.mem_append] at hb
    rcases hb with hb | hb
    · exact colsL_wds h o R L j b hb
    · unfold lst at hb
      obtain ⟨i, _, rfl⟩ := List.mem_map.1 hb
      rcases Nat.lt_or_ge (o + j * L + i * 1) l.length with h1 | h1
      · rw [getD_of_lt h1]; exact h.at_ _ h1
      · rw [getD_of_le h1]; omega
theorem f64s_app (l m : List Nat) : f64s (l ++ m) = f64s l ++ f64s m := by simp [f64s]

theorem owns_nxt {w w' : World} {B : Nat} {e : TypeId} {s : Nat} {v : Value} {n : Nat} {xs : List Value} (h : w.ownsRow B e s v n xs) (hb : Below w.heap.size w w') : w'.ownsRow B e s v n xs := by
  refine ⟨h.1, h.2.imp id ?_⟩
  rintro ⟨g, cap, cur, h1, h2, h3, h4⟩
  have hg : g < w.heap.size := by
    rcases Nat.lt_or_ge g w.heap.size with hl | hl
    · exact hl
    · rw [Array.getElem?_eq_none hl] at h3; cases h3
  exact ⟨g, cap, cur, h1, h2, (hb.block g hg).trans h3, h4⟩

theorem own_row3 {w : World} {B : Nat} {v : Value} {n : Nat} {l : List Nat} (h : w.ownsRow B 39 1 v n (f64s l)) (hn : n = l.length) : ∃ A c, v = .slice A n c ∧ Row w A (f64s l) ∧ (∀ b o, A = some ⟨b, o, none⟩ → B ≤ b) ∧ n ≤ c := by
  by_cases hv : v = .slice none 0 0
  · subst hv
    have hl := h.1
    obtain ⟨_, ⟨_, h0⟩ | ⟨g, cap, cur, h1, _⟩⟩ := h
    · subst h0
      have : l = [] := List.length_eq_zero_iff.1 hn.symm
      subst this
      exact ⟨none, 0, rfl, .inl rfl, (fun b o e => by cases e), Nat.le_refl _⟩
    · cases h1
  · obtain ⟨g, c, rfl, hg, hc, _, ho⟩ := own_of h hv hn
    exact ⟨_, c, rfl, ho.row, (fun b o e => by injection e with e; injection e with e _; omega), hc⟩
theorem own_row2 {w : World} {B : Nat} {v : Value} {n : Nat} {l : List Nat} (h : w.ownsRow B 39 1 v n (f64s l)) (hn : n = l.length) : ∃ A c, v = .slice A n c ∧ Row w A (f64s l) ∧ ∀ b o, A = some ⟨b, o, none⟩ → B ≤ b := by
  obtain ⟨A, c, h1, h2, h3, _⟩ := own_row3 h hn
  exact ⟨A, c, h1, h2, h3⟩

/-- What Numbers comes to, with its room. -/
def Numr (N : Nat) (X : List Nat) (w : World) (e : Ending) (w' : World) : Prop := ∃ B d, e = .returned (.slice B N d) ∧ Row w' B (f64s X) ∧ (∀ b o, B = some ⟨b, o, none⟩ → w.heap.size ≤ b) ∧ N ≤ d ∧ Below w.heap.size w w'
/-- What Numbers comes to. -/
def Numd (N : Nat) (X : List Nat) (w : World) (e : Ending) (w' : World) : Prop := ∃ B d, e = .returned (.slice B N d) ∧ Row w' B (f64s X) ∧ (∀ b o, B = some ⟨b, o, none⟩ → w.heap.size ≤ b) ∧ Below w.heap.size w w'
theorem nm_facts {R C N n : Nat} (hN : R * C = N) (hNn : N ≤ n) (hn : n < 1048576) (hR0 : R ≠ 0) :
    (R : Int) * (C : Int) = (N : Int) ∧ wrap64 (N : Int) = (N : Int) ∧ IntKind.i64.wrap (N : Int) = (N : Int) ∧ (∀ j, j ≤ C → j * R ≤ N) ∧ C * R = N ∧ N < 1048576 ∧ C < 1048576 := by
  have h1 : C * 1 ≤ C * R := Nat.mul_le_mul_left _ (by omega)
  have h2 : C * R = N := by rw [← hN, Nat.mul_comm]
  have h3 : (R : Int) * (C : Int) = (N : Int) := by rw [← hN, Int.natCast_mul]
  clear hN
  refine ⟨h3, ?_, ?_, fun j hj => ?_, h2, by omega, by omega⟩
  · clear h3; exact wrap_id (by unfold I64; omega)
  · clear h3; exact wrapi (by omega) (by omega)
  · rw [← h2]; exact Nat.mul_le_mul_right _ hj

theorem row_sub {w W : World} {b x P R : Nat} {l : List Nat} (hA : Row w (some ⟨b, x, none⟩) (f64s l)) (hb : Below w.heap.size w W) (hP : P + R ≤ l.length) (i : Nat) (u : Value) (h : (f64s (lst l P 1 R))[i]? = some u) : W.cell? ⟨b, x + P + i, none⟩ = some u := by
  obtain ⟨hi', rfl⟩ := f64s_get? h
  have hi2 := hi'
  rw [lst_length] at hi2
  have hPl : P + i < l.length := by omega
  rcases hA with h0 | ⟨b', x', e', hc⟩
  · have : l = [] := by simpa [f64s] using h0
    subst this; simp at hPl
  · injection e' with e'; injection e' with e1 e2
    subst e1; subst e2
    have h2 := hc (P + i) _ (f64s_get l _ hPl)
    have h3 := cell_below h2 hb
    have h4 : (lst l P 1 R)[i] = l[P + i] := by
      rw [← getD_of_lt hi', lst_getD l P 1 hi2, Nat.mul_one, getD_of_lt hPl]
    rw [h4, Nat.add_assoc]; exact h3
theorem addr_at (b o j : Nat) : (⟨b, o, none⟩ : Addr).add j = ⟨b, o + j, none⟩ := by unfold Addr.add; split <;> simp_all
theorem nm_ne {P R n c : Nat} (hP : P + R ≤ n) (hnc : n ≤ c) (hR : 1 ≤ R) : ¬ c = P := by omega
theorem nm_step {P R n c : Nat} (hP : P + R ≤ n) (hnc : n ≤ c) (hn : n < 1048576) : ∃ Q1 : Nat, P + R = Q1 ∧ (P : Int) + (R : Int) = (Q1 : Int) ∧ IntKind.i64.wrap (Q1 : Int) = (Q1 : Int) ∧ wrap64 (Q1 : Int) = (Q1 : Int) ∧ Q1 - P = R ∧ (P : Int) ≤ (Q1 : Int) ∧ (Q1 : Int) ≤ (c : Int) ∧ (0 : Int) ≤ (P : Int) :=
  ⟨P + R, rfl, by omega, wrapi (by omega) (by omega), wrap_id (by unfold I64; omega), by omega, by omega, by omega, by omega⟩
end Go.Proofs.Ytbjopdnfjjcpoaa
