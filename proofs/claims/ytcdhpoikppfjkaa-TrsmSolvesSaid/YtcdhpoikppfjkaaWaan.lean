/-
Gemv: the pure numbers of a product (of GvL, what GemvClose wants). Conditions: as each says.
-/
import Derived.Test.YtcdhpoikppfjkaaWaam
import Derived.Test.YtcdhpoikppfjkaaWaai
import Derived.Test.YtcdhpoikppfjkaaZYVwC
import Derived.Shelf.Abstract
import Derived.Lib.SlicesCompact
import GoSem.Claim
set_option linter.unusedVariables false
set_option linter.unusedSimpArgs false
set_option linter.unnecessarySimpa false
namespace Go.Proofs.Ytcdhpoikppfjkaa
open Go.RowKit
attribute [local go_sem ↓] Go.wp_at_zero Go.wp_at_succ

/-- Numbers added one behind the other. -/
def chnF (z : Nat) (f : Nat → Nat) : Nat → Nat
  | 0 => z
  | k + 1 => fbin .add (chnF z f k) (f k)
theorem chnF_congr (z : Nat) {f f' : Nat → Nat} : ∀ k, (∀ j, j < k → f j = f' j) → chnF z f k = chnF z f' k
  | 0, _ => rfl
  | k + 1, h => by
    show fbin .add _ _ = fbin .add _ _
    rw [chnF_congr z k (fun j hj => h j (by omega)), h k (by omega)]
theorem Chn.is_ {S : Nat → Nat → Nat → Prop} {y z : Nat} {f : Nat → Nat} (hy : Is y z) : ∀ {k r : Nat}, (∀ j, j < k → ∀ s r, S j s r → ∃ p, Is p (f j) ∧ Comes .add s p r) → Chn S y k r → Is r (chnF z f k)
  | 0, r, _, h => by
    obtain rfl : r = y := h
    exact hy
  | k + 1, r, hS, h => by
    obtain ⟨s, h1, h2⟩ := h
    obtain ⟨p, h3, h4⟩ := hS k (by omega) s r h2
    exact h4.is_ (Chn.is_ hy (fun j hj => hS j (by omega)) h1) h3
theorem MulR.is_ {a n f r : Nat} (ha : a < 18446744073709551616) (hn : n < 18446744073709551616) (hf : f < 18446744073709551616) (h : MulR a n f r) : Is r (fbin .mul (fbin .mul a f) n) := by
  obtain ⟨p, h1, h2⟩ := h
  exact h2.is_ (h1.is_ (Is.refl ha) (Is.refl hf)) (Is.refl hn)
theorem MulQ.is_ {a b : Nat} {l : List Nat} {o i : Nat} {lm : List Nat} {om C L : Nat} {lx : List Nat} {ox ix q r : Nat} (ha : a < 18446744073709551616) (hb : b < 18446744073709551616) (hW : Wds l) (hWm : Wds lm) (hWx : Wds lx) (h : MulQ a b l o i lm om C L lx ox ix q r) :
    Is r (chnF (begF b (l.getD (o + q * i) 0)) (fun k => fbin .mul (fbin .mul a (lx.getD (ox + k * ix) 0)) (lm.getD (om + k * L + q) 0)) C) := by
  obtain ⟨s, h1, h2⟩ := h
  exact Chn.is_ (h1.is_ hb (Is.refl (getD_wds hW _))) (fun j _ s r hS => by
    obtain ⟨p, k1, k2⟩ := hS
    exact ⟨p, MulR.is_ ha (getD_wds hWm _) (getD_wds hWx _) k1, k2⟩) h2
/-! ### The document's example. -/
end Go.Proofs.Ytcdhpoikppfjkaa
/-
Ger: each number of a matrix goes through what is handed in. Conditions: the matrix is right, its list the call's own, or it has no numbers.
-/
set_option linter.unusedVariables false
set_option linter.unusedSimpArgs false
set_option linter.unnecessarySimpa false
namespace Go.Proofs.Ytcdhpoikppfjkaa
open Go.RowKit
attribute [local go_sem ↓] Go.wp_at_zero Go.wp_at_succ

/-- The numbers of the first columns, and the next column's first, have become what was asked. -/
def Pcl (l : List Nat) (o R C L : Nat) (P : Nat → Nat → Nat → Prop) (j i : Nat) (l' : List Nat) : Prop :=
  l'.length = l.length ∧ (∀ a, a < R → ∀ b, b < C → if b < j ∨ (b = j ∧ a < i) then P a b (l'.getD (o + a + b * L) 0) else l'.getD (o + a + b * L) 0 = l.getD (o + a + b * L) 0) ∧ ∀ x, (∀ a, a < R → ∀ b, b < C → x ≠ o + a + b * L) → l'.getD x 0 = l.getD x 0
/-- All of them have. -/
def Imr (l : List Nat) (o R C L : Nat) (P : Nat → Nat → Nat → Prop) (l' : List Nat) : Prop :=
  l'.length = l.length ∧ (∀ a, a < R → ∀ b, b < C → P a b (l'.getD (o + a + b * L) 0)) ∧ ∀ x, (∀ a, a < R → ∀ b, b < C → x ≠ o + a + b * L) → l'.getD x 0 = l.getD x 0
theorem Pcl.zero (l : List Nat) (o R C L : Nat) (P : Nat → Nat → Nat → Prop) : Pcl l o R C L P 0 0 l := ⟨rfl, fun a _ b _ => by rw [if_neg (by omega)], fun _ _ => rfl⟩
theorem Pcl.next {l l' : List Nat} {o R C L : Nat} {P : Nat → Nat → Nat → Prop} {j : Nat} (h : Pcl l o R C L P j R l') : Pcl l o R C L P (j + 1) 0 l' :=
  ⟨h.1, fun a ha b hb => by
    have := h.2.1 a ha b hb
    by_cases e : b < j ∨ (b = j ∧ a < R)
    · rw [if_pos e] at this; rw [if_pos (by omega)]; exact this
    · rw [if_neg e] at this; rw [if_neg (by omega)]; exact this, h.2.2⟩
theorem Pcl.done {l l' : List Nat} {o R C L : Nat} {P : Nat → Nat → Nat → Prop} (h : Pcl l o R C L P C 0 l') : Imr l o R C L P l' :=
  ⟨h.1, fun a ha b hb => by have := h.2.1 a ha b hb; rw [if_pos (.inl hb)] at this; exact this, h.2.2⟩
theorem Pcl.was {l l' : List Nat} {o R C L : Nat} {P : Nat → Nat → Nat → Prop} {i j : Nat} (h : Pcl l o R C L P j i l') (hi : i < R) (hj : j < C) : l'.getD (o + i + j * L) 0 = l.getD (o + i + j * L) 0 := by
  have := h.2.1 i hi j hj
  rwa [if_neg (by omega)] at this
theorem Pcl.step {l l' : List Nat} {o R C L : Nat} {P : Nat → Nat → Nat → Prop} {i j r : Nat} (h : Pcl l o R C L P j i l') (hR : R ≤ L) (hi : i < R) (hj : j < C) (hP : o + i + j * L < l.length) (hr : P i j r) : Pcl l o R C L P j (i + 1) (l'.set (o + i + j * L) r) := by
  refine ⟨by rw [List.length_set]; exact h.1, fun a ha b hb => ?_, fun x hx => ?_⟩
  · by_cases e : a = i ∧ b = j
    · obtain ⟨rfl, rfl⟩ := e
      rw [getD_set_self (by rw [h.1]; exact hP), if_pos (by omega)]
      exact hr
    · rw [getD_set_ne _ (fun e2 => e (by
        have := spots_inj (L := L) (a := i) (b := j) (a' := a) (b' := b) (by omega) (by omega) (by omega)
        exact ⟨this.1.symm, this.2.symm⟩))]
      have := h.2.1 a ha b hb
      by_cases e1 : b < j ∨ (b = j ∧ a < i)
      · rw [if_pos e1] at this; rw [if_pos (by omega)]; exact this
      · rw [if_neg e1] at this; rw [if_neg (by omega)]; exact this
  · rw [getD_set_ne _ (fun e => hx i hi j hj e.symm), h.2.2 x hx]
end Go.Proofs.Ytcdhpoikppfjkaa
/-
Where places are cut: rising lists, the pairs of where a block begins and how long it is. Conditions: none.
-/
set_option linter.unusedVariables false
namespace Go.Proofs.Ytcdhpoikppfjkaa
open Go.Sort

/-- Is it cut at k, from 1 to N? -/
def cutB (N S : Nat) (l : List Int) (k : Nat) : Bool := decide (k = N) || decide (k % S = 0) || l.contains (k : Int)
/-- The places that are cut, up to k. -/
def cutsTo (N S : Nat) (l : List Int) : Nat → List Int
  | 0 => [0]
  | k + 1 => cutsTo N S l k ++ (if cutB N S l (k + 1) then [((k + 1 : Nat) : Int)] else [])
/-- The last one. -/
def lastC (C : List Int) : Int := C.getD (C.length - 1) 0
theorem lastC_app (C : List Int) (x : Int) : lastC (C ++ [x]) = x := by
  unfold lastC
  rw [List.getD_eq_getElem?_getD, List.getElem?_append_right (by simp)]
  simp
section
variable {N S : Nat} {l : List Int}
theorem cutsTo_pos (k : Nat) : 0 < (cutsTo N S l k).length := by
  induction k with
  | zero => simp [cutsTo]
  | succ k ih => simp [cutsTo]; omega
theorem cutsTo_zero (k : Nat) : (cutsTo N S l k).getD 0 0 = 0 := by
  induction k with
  | zero => simp [cutsTo]
  | succ k ih =>
    have h := cutsTo_pos (N := N) (S := S) (l := l) k
    rw [cutsTo, List.getD_eq_getElem?_getD, List.getElem?_append_left h, ← List.getD_eq_getElem?_getD, ih]
theorem cutsTo_mem (k : Nat) (x : Int) : x ∈ cutsTo N S l k ↔ x = 0 ∨ ∃ j : Nat, 1 ≤ j ∧ j ≤ k ∧ x = j ∧ cutB N S l j = true := by
  induction k with
  | zero =>
    simp [cutsTo]
    intro j h1 h2; omega
  | succ k ih =>
    rw [cutsTo, List.mem_append, ih]
    constructor
    · rintro ((h | ⟨j, h1, h2, h3⟩) | h)
      · exact .inl h
      · exact .inr ⟨j, h1, by omega, h3⟩
      · split at h
        · next hc => exact .inr ⟨k + 1, by omega, Nat.le_refl _, by simpa using h, hc⟩
        · cases h
    · rintro (h | ⟨j, h1, h2, h3, h4⟩)
      · exact .inl (.inl h)
      · by_cases e : j = k + 1
        · subst e
          right
          rw [if_pos h4]
          simp [h3]
        · exact .inl (.inr ⟨j, h1, by omega, h3, h4⟩)
theorem cutsTo_rising (k : Nat) : (cutsTo N S l k).Pairwise (· < ·) := by
  induction k with
  | zero => simp [cutsTo]
  | succ k ih =>
    rw [cutsTo]
    split
    · rw [List.pairwise_append]
      refine ⟨ih, by simp, fun a ha b hb => ?_⟩
      have hb' : b = ((k + 1 : Nat) : Int) := by simpa using hb
      rcases (cutsTo_mem k a).1 ha with h | ⟨j, h1, h2, h3, _⟩ <;> omega
    · simpa using ih
theorem cutsTo_len (k : Nat) : (cutsTo N S l k).length ≤ k + 1 := by
  induction k with
  | zero => simp [cutsTo]
  | succ k ih =>
    rw [cutsTo]
    split <;> simp <;> omega
theorem cuts_in (k i : Nat) : 0 ≤ (cutsTo N S l k).getD i 0 ∧ (cutsTo N S l k).getD i 0 ≤ k := by
  rcases Nat.lt_or_ge i (cutsTo N S l k).length with h | h
  · have hm : (cutsTo N S l k).getD i 0 ∈ cutsTo N S l k := by
      rw [List.getD_eq_getElem?_getD, List.getElem?_eq_getElem h]
      exact List.getElem_mem _
    rcases (cutsTo_mem k _).1 hm with h | ⟨j, h1, h2, h3, _⟩ <;> omega
  · rw [List.getD_eq_getElem?_getD, List.getElem?_eq_none h]; simp
/-- All. -/
def cuts (N S : Nat) (l : List Int) : List Int := cutsTo N S l N
theorem cuts_end (hN : 1 ≤ N) : lastC (cuts N S l) = N ∧ 2 ≤ (cuts N S l).length := by
  obtain ⟨k, rfl⟩ : ∃ k, N = k + 1 := ⟨N - 1, by omega⟩
  have hc : cutB (k + 1) S l (k + 1) = true := by simp [cutB]
  have hp := cutsTo_pos (N := k + 1) (S := S) (l := l) k
  unfold cuts
  rw [cutsTo, if_pos hc, lastC_app, List.length_append, List.length_singleton]
  exact ⟨rfl, by omega⟩
end
/-- Rising lists of the same numbers are the same. -/
theorem rising_ext : ∀ {a b : List Int}, a.Pairwise (· < ·) → b.Pairwise (· < ·) → (∀ x, x ∈ a ↔ x ∈ b) → a = b
  | [], b, _, _, h => by
    cases b with
    | nil => rfl
    | cons y b => exact absurd ((h y).2 (by simp)) (by simp)
  | x :: a, [], _, _, h => absurd ((h x).1 (by simp)) (by simp)
  | x :: a, y :: b, ha, hb, h => by
    rw [List.pairwise_cons] at ha hb
    have e : x = y := by
      have h1 := (h x).1 (by simp)
      have h2 := (h y).2 (by simp)
      rw [List.mem_cons] at h1 h2
      rcases h1 with h1 | h1
      · exact h1
      · rcases h2 with h2 | h2
        · exact h2.symm
        · have := hb.1 x h1
          have := ha.1 y h2
          omega
    subst e
    congr 1
    refine rising_ext ha.2 hb.2 fun z => ?_
    have hz := h z
    rw [List.mem_cons, List.mem_cons] at hz
    constructor
    · intro k
      rcases hz.1 (.inr k) with r | r
      · have := ha.1 z k; omega
      · exact r
    · intro k
      rcases hz.2 (.inr k) with r | r
      · have := hb.1 z k; omega
      · exact r
/-- What compact leaves of a list in order. -/
theorem compactUpTo_rising (d : Array Int) (h : ∀ i j, i < j → j < d.size → d[i]! ≤ d[j]!) : ∀ m, m ≤ d.size → (Lib.compactUpTo d m).Pairwise (· < ·) ∧ (∀ x, x ∈ Lib.compactUpTo d m ↔ ∃ j, j < m ∧ d[j]! = x) ∧ ∀ x ∈ Lib.compactUpTo d m, x ≤ d[m - 1]!
  | 0, _ => ⟨by simp [Lib.compactUpTo], fun x => by simp [Lib.compactUpTo], fun x hx => by simp [Lib.compactUpTo] at hx⟩
  | m + 1, hm => by
    obtain ⟨h1, h2, h3⟩ := compactUpTo_rising d h m (by omega)
    rw [Lib.compactUpTo_succ]
    have hle : 0 < m → d[m - 1]! ≤ d[m]! := fun h0 => h _ _ (by omega) (by omega)
    by_cases hk : Lib.keeps d m = true
    · rw [if_pos hk]
      have hlt : 0 < m → d[m - 1]! < d[m]! := fun h0 => by
        have h4 := hle h0
        unfold Lib.keeps at hk
        simp only [decide_eq_true_eq] at hk
        rcases hk with hk | hk
        · omega
        · omega
      have hall : ∀ x ∈ Lib.compactUpTo d m, x < d[m]! := fun x hx => by
        have h0 : 0 < m := by
          rcases Nat.eq_zero_or_pos m with e | e
          · subst e; simp [Lib.compactUpTo] at hx
          · exact e
        have := h3 x hx
        have := hlt h0
        omega
      refine ⟨?_, fun x => ?_, fun x hx => ?_⟩
      · rw [List.pairwise_append]
        exact ⟨h1, by simp, fun a ha b hb => by simp at hb; subst hb; exact hall a ha⟩
      · rw [List.mem_append, h2, List.mem_singleton]
        constructor
        · rintro (⟨j, hj, e⟩ | e)
          · exact ⟨j, by omega, e⟩
          · exact ⟨m, by omega, e.symm⟩
        · rintro ⟨j, hj, e⟩
          by_cases hjm : j = m
          · subst hjm; exact .inr e.symm
          · exact .inl ⟨j, by omega, e⟩
      · rw [List.mem_append, List.mem_singleton] at hx
        simp only [Nat.add_sub_cancel]
        rcases hx with hx | hx
        · have := hall x hx; omega
        · omega
    · rw [if_neg hk, List.append_nil]
      have hkn : 0 < m ∧ d[m]! = d[m - 1]! := by
        unfold Lib.keeps at hk
        simp only [decide_eq_true_eq, not_or, Classical.not_not] at hk
        exact ⟨by omega, hk.2⟩
      refine ⟨h1, fun x => ?_, fun x hx => ?_⟩
      · rw [h2]
        constructor
        · rintro ⟨j, hj, e⟩
          exact ⟨j, by omega, e⟩
        · rintro ⟨j, hj, e⟩
          by_cases hjm : j = m
          · subst hjm; exact ⟨j - 1, by omega, by rw [← hkn.2]; exact e⟩
          · exact ⟨j, by omega, e⟩
      · have := h3 x hx
        simp only [Nat.add_sub_cancel]
        rw [hkn.2]
        exact this
theorem compact_rising (zs : List Int) (h : zs.Pairwise (· ≤ ·)) : (Lib.compact zs).Pairwise (· < ·) ∧ ∀ x, x ∈ Lib.compact zs ↔ x ∈ zs := by
  have hs : ∀ i j, i < j → j < zs.toArray.size → zs.toArray[i]! ≤ zs.toArray[j]! := fun i j hij hj => by
    have hj' : j < zs.length := by simpa using hj
    rw [getElem!_pos zs.toArray i (by simp; omega), getElem!_pos zs.toArray j hj]
    simpa using List.pairwise_iff_getElem.1 h i j (by omega) hj' hij
  obtain ⟨h1, h2, _⟩ := compactUpTo_rising zs.toArray hs zs.length (by simp)
  refine ⟨h1, fun x => ?_⟩
  unfold Lib.compact
  rw [h2, List.mem_iff_getElem]
  constructor
  · rintro ⟨j, hj, e⟩
    rw [getElem!_pos zs.toArray j (by simpa using hj)] at e
    exact ⟨j, hj, by simpa using e⟩
  · rintro ⟨j, hj, e⟩
    exact ⟨j, hj, by rw [getElem!_pos zs.toArray j (by simpa using hj)]; simpa using e⟩
theorem sort_mem (zs : List Int) : (zs.mergeSort fun x y => decide (x ≤ y)).Pairwise (· ≤ ·) ∧ ∀ x, x ∈ (zs.mergeSort fun x y => decide (x ≤ y)) ↔ x ∈ zs := by
  refine ⟨?_, fun x => (List.mergeSort_perm zs _).mem_iff⟩
  have h := List.pairwise_mergeSort (le := fun x y : Int => decide (x ≤ y)) (fun a b c h1 h2 => by simp at *; omega) (fun a b => by simp; omega) zs
  exact h.imp (fun h => by simpa using h)
/-- The multiples of S, q of them. -/
def mults (S q : Nat) : List Int := (List.range q).map fun j => ((j * S : Nat) : Int)
theorem mults_succ (S q : Nat) : mults S (q + 1) = mults S q ++ [((q * S : Nat) : Int)] := by simp [mults, List.range_succ]
/-- The program's places. -/
def raw (N S q : Nat) (l : List Int) : List Int := (N : Int) :: (mults S q ++ l.filter fun p => decide (0 ≤ p) && decide (p ≤ (N : Int)))
theorem raw_cuts {N S q : Nat} (l : List Int) (hN : 1 ≤ N) (hS : 1 ≤ S) (h1 : ∀ j, j < q → j * S < N) (h2 : N ≤ q * S) : Lib.compact ((raw N S q l).mergeSort fun x y => decide (x ≤ y)) = cuts N S l := by
  obtain ⟨s1, s2⟩ := sort_mem (raw N S q l)
  obtain ⟨c1, c2⟩ := compact_rising _ s1
  refine rising_ext c1 (cutsTo_rising N) fun x => ?_
  rw [c2, s2, cuts, cutsTo_mem]
  unfold raw mults
  rw [List.mem_cons, List.mem_append, List.mem_map, List.mem_filter]
  constructor
  · rintro (h | ⟨j, hj, h⟩ | ⟨h, hb⟩)
    · exact .inr ⟨N, hN, Nat.le_refl _, h, by simp [cutB]⟩
    · have := h1 j (List.mem_range.1 hj)
      by_cases e : j = 0
      · left; subst e; simpa using h.symm
      · exact .inr ⟨j * S, Nat.mul_pos (by omega) hS, by omega, h.symm, by simp [cutB]⟩
    · simp only [Bool.and_eq_true, decide_eq_true_eq] at hb
      by_cases e : x = 0
      · exact .inl e
      · refine .inr ⟨x.toNat, by omega, by omega, by omega, ?_⟩
        have e2 : ((x.toNat : Nat) : Int) = x := by omega
        unfold cutB
        rw [e2]
        simp [h]
  · rintro (h | ⟨j, j1, j2, h, hc⟩)
    · subst h
      refine .inr (.inl ⟨0, List.mem_range.2 ?_, by simp⟩)
      rcases Nat.eq_zero_or_pos q with e | e
      · subst e; simp at h2; omega
      · exact e
    · subst h
      simp only [cutB, Bool.or_eq_true, decide_eq_true_eq, List.contains_iff_mem] at hc
      rcases hc with (e | e) | e
      · exact .inl (by rw [e])
      · by_cases e3 : j = N
        · exact .inl (by rw [e3])
        · refine .inr (.inl ⟨j / S, List.mem_range.2 ?_, ?_⟩)
          · rw [Nat.div_lt_iff_lt_mul (by omega)]; omega
          · rw [Nat.div_mul_cancel (Nat.dvd_of_mod_eq_zero e)]
      · exact .inr (.inr ⟨e, by simp; omega⟩)
/-- The cells of m blocks. -/
def prs (C : List Int) (m : Nat) : List Value := (List.range m).flatMap fun i => [.int .i64 (C.getD i 0), .int .i64 (C.getD (i + 1) 0 - C.getD i 0)]
theorem prs_succ (C : List Int) (m : Nat) : prs C (m + 1) = prs C m ++ [.int .i64 (C.getD m 0), .int .i64 (C.getD (m + 1) 0 - C.getD m 0)] := by simp [prs, List.range_succ, List.flatMap_append]
theorem prs_length (C : List Int) (m : Nat) : (prs C m).length = m * 2 := by
  induction m with
  | zero => rfl
  | succ m ih => rw [prs_succ, List.length_append, ih]; simp; omega
theorem prs_get (C : List Int) {m i : Nat} (h : i < m) : (prs C m)[i * 2]? = some (.int .i64 (C.getD i 0)) ∧ (prs C m)[i * 2 + 1]? = some (.int .i64 (C.getD (i + 1) 0 - C.getD i 0)) := by
  induction m with
  | zero => omega
  | succ m ih =>
    rw [prs_succ]
    have hl := prs_length C m
    by_cases e : i = m
    · subst e
      rw [List.getElem?_append_right (by omega), List.getElem?_append_right (by omega), hl, show i * 2 - i * 2 = 0 by omega, show i * 2 + 1 - i * 2 = 1 by omega]
      exact ⟨rfl, rfl⟩
    · rw [List.getElem?_append_left (by omega), List.getElem?_append_left (by omega)]
      exact ih (by omega)
end Go.Proofs.Ytcdhpoikppfjkaa
