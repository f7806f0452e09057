/-
Where places are cut: rising lists, the pairs of where a block begins and how long it is. Conditions: none.
-/
import Derived.Lib.SlicesCompact
import GoSem.Claim
import Derived.Test.YtbeefnekblepfaaShelf
import Derived.Test.YtbeefnekblepfaaUaad
import Derived.Test.YtbeefnekblepfaaZVwH
import Derived.Laws.AppendOwn
import Derived.Test.YtbeefnekblepfaaUaam
import Derived.Test.YtbeefnekblepfaaUaal
set_option linter.unusedVariables false
namespace Go.Proofs.Ytbeefnekblepfaa
open Go.Sort

/-- Is it cut at k, from 1 to N? -/
def cutB (N S : Nat) (l : List Int) (k : Nat) : Bool := decide (k = N) || decide (k % S = 0) || l.contains (k : Int)
/-- The places that are cut, up to k. -/
def cutsTo (N S : Nat) (l : List Int) : Nat → List Int
  | 0 => [0]
  | k + 1 => cutsTo N S l k ++ (if cutB N S l (k + 1) then [((k + 1 : Nat) : Int)] else [])
/-- The last one. -/
def lastC (C : List Int) : Int := C.getD (C.length - 1) 0
theorem lastC_app (C : List Int) (x : Int) : lastC (C ++ [x]) = x := by
  unfold lastC
  rw [List.getD_eq_getElem?_getD, List.getElem?_append_right (by simp)]
  simp
section
variable {N S : Nat} {l : List Int}
theorem cutsTo_pos (k : Nat) : 0 < (cutsTo N S l k).length := by
  induction k with
  | zero => simp [cutsTo]
  | succ k ih => simp [cutsTo]; omega
theorem cutsTo_zero (k : Nat) : (cutsTo N S l k).getD 0 0 = 0 := by
  induction k with
  | zero => simp [cutsTo]
  | succ k ih =>
    have h := cutsTo_pos (N := N) (S := S) (l := l) k
    rw [cutsTo, List.getD_eq_getElem?_getD, List.getElem?_append_left h, ← List.getD_eq_getElem?_getD, ih]
theorem cutsTo_mem (k : Nat) (x : Int) : x ∈ cutsTo N S l k ↔ x = 0 ∨ ∃ j : Nat, 1 ≤ j ∧ j ≤ k ∧ x = j ∧ cutB N S l j = true := by
  induction k with
  | zero =>
    simp [cutsTo]
    intro j h1 h2; omega
  | succ k ih =>
    rw [cutsTo, List.mem_append, ih]
    constructor
    · rintro ((h | ⟨j, h1, h2, h3⟩) | h)
      · exact .inl h
      · exact .inr ⟨j, h1, by omega, h3⟩
      · split at h
        · next hc => exact .inr ⟨k + 1, by omega, Nat.le_refl _, by simpa using h, hc⟩
        · cases h
    · rintro (h | ⟨j, h1, h2, h3, h4⟩)
      · exact .inl (.inl h)
      · by_cases e : j = k + 1
        · subst e
          right
          rw [if_pos h4]
          simp [h3]
        · exact .inl (.inr ⟨j, h1, by omega, h3, h4⟩)
theorem cutsTo_rising (k : Nat) : (cutsTo N S l k).Pairwise (· < ·) := by
  induction k with
  | zero => simp [cutsTo]
  | succ k ih =>
    rw [cutsTo]
    split
    · rw [List.pairwise_append]
      refine ⟨ih, by simp, fun a ha b hb => ?_⟩
      have hb' : b = ((k + 1 : Nat) : Int) := by simpa using hb
      rcases (cutsTo_mem k a).1 ha with h | ⟨j, h1, h2, h3, _⟩ <;> omega
    · simpa using ih
theorem cutsTo_last (k : Nat) : 0 ≤ lastC (cutsTo N S l k) ∧ lastC (cutsTo N S l k) ≤ k := by
  have h := cutsTo_pos (N := N) (S := S) (l := l) k
  have hm : lastC (cutsTo N S l k) ∈ cutsTo N S l k := by
    unfold lastC
    rw [List.getD_eq_getElem?_getD, List.getElem?_eq_getElem (by omega)]
    exact List.getElem_mem _
  rcases (cutsTo_mem k _).1 hm with h | ⟨j, h1, h2, h3, _⟩ <;> omega
theorem cutsTo_len (k : Nat) : (cutsTo N S l k).length ≤ k + 1 := by
  induction k with
  | zero => simp [cutsTo]
  | succ k ih =>
    rw [cutsTo]
    split <;> simp <;> omega
theorem cuts_in (k i : Nat) : 0 ≤ (cutsTo N S l k).getD i 0 ∧ (cutsTo N S l k).getD i 0 ≤ k := by
  rcases Nat.lt_or_ge i (cutsTo N S l k).length with h | h
  · have hm : (cutsTo N S l k).getD i 0 ∈ cutsTo N S l k := by
      rw [List.getD_eq_getElem?_getD, List.getElem?_eq_getElem h]
      exact List.getElem_mem _
    rcases (cutsTo_mem k _).1 hm with h | ⟨j, h1, h2, h3, _⟩ <;> omega
  · rw [List.getD_eq_getElem?_getD, List.getElem?_eq_none h]; simp
/-- Each block is at most S long. -/
theorem cutsTo_near (hS : 1 ≤ S) (k : Nat) : (∃ q : Nat, ((q * S : Nat) : Int) ≤ lastC (cutsTo N S l k) ∧ k < q * S + S) ∧ ∀ i, i + 1 < (cutsTo N S l k).length → (cutsTo N S l k).getD (i + 1) 0 ≤ (cutsTo N S l k).getD i 0 + S := by
  induction k with
  | zero => exact ⟨⟨0, by simp [cutsTo, lastC], by omega⟩, fun i hi => by simp [cutsTo] at hi⟩
  | succ k ih =>
    obtain ⟨⟨q, h1, h2⟩, h3⟩ := ih
    have hp := cutsTo_pos (N := N) (S := S) (l := l) k
    have hl := cutsTo_last (N := N) (S := S) (l := l) k
    rw [cutsTo]
    by_cases hc : cutB N S l (k + 1) = true
    · rw [if_pos hc]
      refine ⟨?_, fun i hi => ?_⟩
      · rw [lastC_app]
        by_cases h : k + 1 < q * S + S
        · exact ⟨q, by omega, h⟩
        · exact ⟨q + 1, by rw [Nat.add_mul]; omega, by rw [Nat.add_mul]; omega⟩
      · rw [List.length_append, List.length_singleton] at hi
        by_cases e : i + 1 < (cutsTo N S l k).length
        · rw [List.getD_eq_getElem?_getD, List.getElem?_append_left e, ← List.getD_eq_getElem?_getD, List.getD_eq_getElem?_getD (l := _ ++ _), List.getElem?_append_left (by omega), ← List.getD_eq_getElem?_getD]
          exact h3 i e
        · have e1 : i + 1 = (cutsTo N S l k).length := by omega
          have e2 : (cutsTo N S l k).getD i 0 = lastC (cutsTo N S l k) := by unfold lastC; congr 1; omega
          have e3 : (cutsTo N S l k ++ [((k + 1 : Nat) : Int)]).getD (i + 1) 0 = ((k + 1 : Nat) : Int) := by rw [List.getD_eq_getElem?_getD, List.getElem?_append_right (by omega), e1]; simp
          have e4 : (cutsTo N S l k ++ [((k + 1 : Nat) : Int)]).getD i 0 = lastC (cutsTo N S l k) := by rw [← e2, List.getD_eq_getElem?_getD, List.getElem?_append_left (by omega), ← List.getD_eq_getElem?_getD]
          rw [e3, e4]
          omega
    · rw [if_neg hc, List.append_nil]
      refine ⟨⟨q, h1, ?_⟩, h3⟩
      have hm : ¬ (k + 1) % S = 0 := fun e => hc (by simp [cutB, e])
      have : k + 1 ≠ (q + 1) * S := fun e => hm (by rw [e]; simp)
      rw [Nat.add_mul] at this
      omega
/-- All. -/
def cuts (N S : Nat) (l : List Int) : List Int := cutsTo N S l N
theorem cuts_end (hN : 1 ≤ N) : lastC (cuts N S l) = N ∧ 2 ≤ (cuts N S l).length := by
  obtain ⟨k, rfl⟩ : ∃ k, N = k + 1 := ⟨N - 1, by omega⟩
  have hc : cutB (k + 1) S l (k + 1) = true := by simp [cutB]
  have hp := cutsTo_pos (N := k + 1) (S := S) (l := l) k
  unfold cuts
  rw [cutsTo, if_pos hc, lastC_app, List.length_append, List.length_singleton]
  exact ⟨rfl, by omega⟩
end
/-- Rising lists of the same numbers are the same. -/
theorem rising_ext : ∀ {a b : List Int}, a.Pairwise (· < ·) → b.Pairwise (· < ·) → (∀ x, x ∈ a ↔ x ∈ b) → a = b
  | [], b, _, _, h => by
    cases b with
    | nil => rfl
    | cons y b => exact absurd ((h y).2 (by simp)) (by simp)
  | x :: a, [], _, _, h => absurd ((h x).1 (by simp)) (by simp)
  | x :: a, y :: b, ha, hb, h => by
    rw [List.pairwise_cons] at ha hb
    have e : x = y := by
      have h1 := (h x).1 (by simp)
      have h2 := (h y).2 (by simp)
      rw [List.mem_cons] at h1 h2
      rcases h1 with h1 | h1
      · exact h1
      · rcases h2 with h2 | h2
        · exact h2.symm
        · have := hb.1 x h1
          have := ha.1 y h2
          omega
    subst e
    congr 1
    refine rising_ext ha.2 hb.2 fun z => ?_
    have hz := h z
    rw [List.mem_cons, List.mem_cons] at hz
    constructor
    · intro k
      rcases hz.1 (.inr k) with r | r
      · have := ha.1 z k; omega
      · exact r
    · intro k
      rcases hz.2 (.inr k) with r | r
      · have := hb.1 z k; omega
      · exact r
/-- What compact leaves of a list in order. -/
theorem compactUpTo_rising (d : Array Int) (h : ∀ i j, i < j → j < d.size → d[i]! ≤ d[j]!) : ∀ m, m ≤ d.size → (Lib.compactUpTo d m).Pairwise (· < ·) ∧ (∀ x, x ∈ Lib.compactUpTo d m ↔ ∃ j, j < m ∧ d[j]! = x) ∧ ∀ x ∈ Lib.compactUpTo d m, x ≤ d[m - 1]!
  | 0, _ => ⟨by simp [Lib.compactUpTo], fun x => by simp [Lib.compactUpTo], fun x hx => by simp [Lib.compactUpTo] at hx⟩
  | m + 1, hm => by
    obtain ⟨h1, h2, h3⟩ := compactUpTo_rising d h m (by omega)
    rw [Lib.compactUpTo_succ]
    have hle : 0 < m → d[m - 1]! ≤ d[m]! := fun h0 => h _ _ (by omega) (by omega)
    by_cases hk : Lib.keeps d m = true
    · rw [if_pos hk]
      have hlt : 0 < m → d[m - 1]! < d[m]! := fun h0 => by
        have h4 := hle h0
        unfold Lib.keeps at hk
        simp only [decide_eq_true_eq] at hk
        rcases hk with hk | hk
        · omega
        · omega
      have hall : ∀ x ∈ Lib.compactUpTo d m, x < d[m]! := fun x hx => by
        have h0 : 0 < m := by
          rcases Nat.eq_zero_or_pos m with e | e
          · subst e; simp [Lib.compactUpTo] at hx
          · exact e
        have := h3 x hx
        have := hlt h0
        omega
      refine ⟨?_, fun x => ?_, fun x hx => ?_⟩
      · rw [List.pairwise_append]
        exact ⟨h1, by simp, fun a ha b hb => by simp at hb; subst hb; exact hall a ha⟩
      · rw [List.mem_append, h2, List.mem_singleton]
        constructor
        · rintro (⟨j, hj, e⟩ | e)
          · exact ⟨j, by omega, e⟩
          · exact ⟨m, by omega, e.symm⟩
        · rintro ⟨j, hj, e⟩
          by_cases hjm : j = m
          · subst hjm; exact .inr e.symm
          · exact .inl ⟨j, by omega, e⟩
      · rw [List.mem_append, List.mem_singleton] at hx
        simp only [Nat.add_sub_cancel]
        rcases hx with hx | hx
        · have := hall x hx; omega
        · omega
    · rw [if_neg hk, List.append_nil]
      have hkn : 0 < m ∧ d[m]! = d[m - 1]! := by
        unfold Lib.keeps at hk
        simp only [decide_eq_true_eq, not_or, Classical.not_not] at hk
        exact ⟨by omega, hk.2⟩
      refine ⟨h1, fun x => ?_, fun x hx => ?_⟩
      · rw [h2]
        constructor
        · rintro ⟨j, hj, e⟩
          exact ⟨j, by omega, e⟩
        · rintro ⟨j, hj, e⟩
          by_cases hjm : j = m
          · subst hjm; exact ⟨j - 1, by omega, by rw [← hkn.2]; exact e⟩
          · exact ⟨j, by omega, e⟩
      · have := h3 x hx
        simp only [Nat.add_sub_cancel]
        rw [hkn.2]
        exact this
theorem compact_rising (zs : List Int) (h : zs.Pairwise (· ≤ ·)) : (Lib.compact zs).Pairwise (· < ·) ∧ ∀ x, x ∈ Lib.compact zs ↔ x ∈ zs := by
  have hs : ∀ i j, i < j → j < zs.toArray.size → zs.toArray[i]! ≤ zs.toArray[j]! := fun i j hij hj => by
    have hj' : j < zs.length := by simpa using hj
    rw [getElem!_pos zs.toArray i (by simp; omega), getElem!_pos zs.toArray j hj]
    simpa using List.pairwise_iff_getElem.1 h i j (by omega) hj' hij
  obtain ⟨h1, h2, _⟩ := compactUpTo_rising zs.toArray hs zs.length (by simp)
  refine ⟨h1, fun x => ?_⟩
  unfold Lib.compact
  rw [h2, List.mem_iff_getElem]
  constructor
  · rintro ⟨j, hj, e⟩
    rw [getElem!_pos zs.toArray j (by simpa using hj)] at e
    exact ⟨j, hj, by simpa using e⟩
  · rintro ⟨j, hj, e⟩
    exact ⟨j, hj, by rw [getElem!_pos zs.toArray j (by simpa using hj)]; simpa using e⟩
theorem sort_mem (zs : List Int) : (zs.mergeSort fun x y => decide (x ≤ y)).Pairwise (· ≤ ·) ∧ ∀ x, x ∈ (zs.mergeSort fun x y => decide (x ≤ y)) ↔ x ∈ zs := by
  refine ⟨?_, fun x => (List.mergeSort_perm zs _).mem_iff⟩
  have h := List.pairwise_mergeSort (le := fun x y : Int => decide (x ≤ y)) (fun a b c h1 h2 => by simp at *; omega) (fun a b => by simp; omega) zs
  exact h.imp (fun h => by simpa using h)
/-- The multiples of S, q of them. -/
def mults (S q : Nat) : List Int := (List.range q).map fun j => ((j * S : Nat) : Int)
theorem mults_succ (S q : Nat) : mults S (q + 1) = mults S q ++ [((q * S : Nat) : Int)] := by simp [mults, List.range_succ]
/-- The program's places. -/
def raw (N S q : Nat) (l : List Int) : List Int := (N : Int) :: (mults S q ++ l.filter fun p => decide (0 ≤ p) && decide (p ≤ (N : Int)))
theorem raw_cuts {N S q : Nat} (l : List Int) (hN : 1 ≤ N) (hS : 1 ≤ S) (h1 : ∀ j, j < q → j * S < N) (h2 : N ≤ q * S) : Lib.compact ((raw N S q l).mergeSort fun x y => decide (x ≤ y)) = cuts N S l := by
  obtain ⟨s1, s2⟩ := sort_mem (raw N S q l)
  obtain ⟨c1, c2⟩ := compact_rising _ s1
  refine rising_ext c1 (cutsTo_rising N) fun x => ?_
  rw [c2, s2, cuts, cutsTo_mem]
  unfold raw mults
  rw [List.mem_cons, List.mem_append, List.mem_map, List.mem_filter]
  constructor
  · rintro (h | ⟨j, hj, h⟩ | ⟨h, hb⟩)
    · exact .inr ⟨N, hN, Nat.le_refl _, h, by simp [cutB]⟩
    · have := h1 j (List.mem_range.1 hj)
      by_cases e : j = 0
      · left; subst e; simpa using h.symm
      · exact .inr ⟨j * S, Nat.mul_pos (by omega) hS, by omega, h.symm, by simp [cutB]⟩
    · simp only [Bool.and_eq_true, decide_eq_true_eq] at hb
      by_cases e : x = 0
      · exact .inl e
      · refine .inr ⟨x.toNat, by omega, by omega, by omega, ?_⟩
        have e2 : ((x.toNat : Nat) : Int) = x := by omega
        unfold cutB
        rw [e2]
        simp [h]
  · rintro (h | ⟨j, j1, j2, h, hc⟩)
    · subst h
      refine .inr (.inl ⟨0, List.mem_range.2 ?_, by simp⟩)
      rcases Nat.eq_zero_or_pos q with e | e
      · subst e; simp at h2; omega
      · exact e
    · subst h
      simp only [cutB, Bool.or_eq_true, decide_eq_true_eq, List.contains_iff_mem] at hc
      rcases hc with (e | e) | e
      · exact .inl (by rw [e])
      · by_cases e3 : j = N
        · exact .inl (by rw [e3])
        · refine .inr (.inl ⟨j / S, List.mem_range.2 ?_, ?_⟩)
          · rw [Nat.div_lt_iff_lt_mul (by omega)]; omega
          · rw [Nat.div_mul_cancel (Nat.dvd_of_mod_eq_zero e)]
      · exact .inr (.inr ⟨e, by simp; omega⟩)
/-- The cells of m blocks. -/
def prs (C : List Int) (m : Nat) : List Value := (List.range m).flatMap fun i => [.int .i64 (C.getD i 0), .int .i64 (C.getD (i + 1) 0 - C.getD i 0)]
theorem prs_succ (C : List Int) (m : Nat) : prs C (m + 1) = prs C m ++ [.int .i64 (C.getD m 0), .int .i64 (C.getD (m + 1) 0 - C.getD m 0)] := by simp [prs, List.range_succ, List.flatMap_append]
theorem prs_length (C : List Int) (m : Nat) : (prs C m).length = m * 2 := by
  induction m with
  | zero => rfl
  | succ m ih => rw [prs_succ, List.length_append, ih]; simp; omega
theorem prs_get (C : List Int) {m i : Nat} (h : i < m) : (prs C m)[i * 2]? = some (.int .i64 (C.getD i 0)) ∧ (prs C m)[i * 2 + 1]? = some (.int .i64 (C.getD (i + 1) 0 - C.getD i 0)) := by
  induction m with
  | zero => omega
  | succ m ih =>
    rw [prs_succ]
    have hl := prs_length C m
    by_cases e : i = m
    · subst e
      rw [List.getElem?_append_right (by omega), List.getElem?_append_right (by omega), hl, show i * 2 - i * 2 = 0 by omega, show i * 2 + 1 - i * 2 = 1 by omega]
      exact ⟨rfl, rfl⟩
    · rw [List.getElem?_append_left (by omega), List.getElem?_append_left (by omega)]
      exact ih (by omega)
theorem prs_congr {C D : List Int} {m : Nat} (h : ∀ i, i ≤ m → C.getD i 0 = D.getD i 0) : prs C m = prs D m := by
  induction m with
  | zero => rfl
  | succ m ih => rw [prs_succ, prs_succ, ih (fun i hi => h i (by omega)), h m (by omega), h (m + 1) (by omega)]
/-- One more place. -/
theorem prs_snoc {C : List Int} (h : 0 < C.length) (x : Int) : prs (C ++ [x]) ((C ++ [x]).length - 1) = prs C (C.length - 1) ++ [.int .i64 (lastC C), .int .i64 (x - lastC C)] := by
  obtain ⟨m, hm⟩ : ∃ m, C.length = m + 1 := ⟨C.length - 1, by omega⟩
  have e1 : ∀ i, i ≤ m → (C ++ [x]).getD i 0 = C.getD i 0 := fun i hi => by
    rw [List.getD_eq_getElem?_getD, List.getElem?_append_left (by omega), ← List.getD_eq_getElem?_getD]
  have e2 : (C ++ [x]).getD (m + 1) 0 = x := by
    rw [List.getD_eq_getElem?_getD, List.getElem?_append_right (by omega)]; simp [hm]
  rw [List.length_append, List.length_singleton, hm, show m + 1 + 1 - 1 = m + 1 by omega, show m + 1 - 1 = m by omega, prs_succ, prs_congr e1, e1 m (Nat.le_refl _), e2]
  unfold lastC
  rw [hm, show m + 1 - 1 = m by omega]
end Go.Proofs.Ytbeefnekblepfaa
/-
Where places are cut: the program's list. Conditions: 1 to 4096 places, blocks of at least 1, at most 50 more.
-/
set_option linter.unusedVariables false
set_option linter.unusedSimpArgs false
namespace Go.Proofs.Ytbeefnekblepfaa
open Go.RowKit Go.Sort
attribute [local go_sem ↓] Go.wp_at_zero Go.wp_at_succ

theorem i64s_length (l : List Int) : (i64s l).length = l.length := by simp [i64s]
theorem i64s_snoc (l : List Int) (x : Int) : i64s (l ++ [x]) = i64s l ++ [.int .i64 x] := by simp [i64s]
theorem info_i64 : (Try.prog.info? 3).map (fun i => (i.zero, i.size, i.bytes)) = some (some (.int .i64 0), 1, 8) := by kernel_rfl
theorem ii0 : ∃ i, Try.prog.info? 3 = some i ∧ i.zero = some (.int .i64 0) ∧ i.size = 1 ∧ i.bytes = 8 := by
  obtain ⟨i, hi, h⟩ := Option.map_eq_some_iff.1 info_i64
  simp only [Prod.mk.injEq] at h
  exact ⟨i, hi, h.1, h.2.1, h.2.2⟩
theorem own_one (w : World) (t : TypeId) (v : Value) : (w.alloc (.cells #[v] t)).ownsRow w.heap.size t 1 (.slice (some ⟨w.heap.size, 0, none⟩) 1 1) 1 [v] :=
  ⟨rfl, .inr ⟨w.heap.size, 1, #[v], rfl, Nat.le_refl _, heap_alloc_new w _, Nat.le_refl _, by unfold maxLen; omega, rfl, rfl⟩⟩
theorem below_put {α : Type} [Inhabited α] (enc : α → Value) (w : World) (g m : Nat) (d : Array α) (os : Array Obj) (hb : g < w.heap.size) : Below g w (grow (putRow enc (Sort.ahead w m) g 0 d) os) := by
  refine ⟨rfl, rfl, rfl, ?_, fun q hq => ?_⟩
  · show w.heap.size ≤ (grow (putRow enc (Sort.ahead w m) g 0 d) os).heap.size
    unfold grow
    rw [Array.size_append, size_putRow]
    exact Nat.le_add_right _ _
  · show ((putRow enc (Sort.ahead w m) g 0 d).heap ++ os)[q]? = _
    have hs : (putRow enc (Sort.ahead w m) g 0 d).heap.size = w.heap.size := by rw [size_putRow]; rfl
    rw [Array.getElem?_append_left (by omega)]
    show (w.heap.modify g _)[q]? = _
    rw [Array.getElem?_modify, if_neg (by omega)]
theorem blk_put {α : Type} [Inhabited α] {w : World} {g : Nat} {t : TypeId} {cur : Array Value} (h : Blk w g t cur) (enc : α → Value) (m : Nat) (d : Array α) (os : Array Obj) : Blk (grow (putRow enc (Sort.ahead w m) g 0 d) os) g t (putCells enc 0 d cur) := by
  have hl := h.lt
  unfold Blk at *
  show ((putRow enc (Sort.ahead w m) g 0 d).heap ++ os)[g]? = _
  have hs : (putRow enc (Sort.ahead w m) g 0 d).heap.size = w.heap.size := by rw [size_putRow]; rfl
  rw [Array.getElem?_append_left (by omega)]
  show (w.heap.modify g _)[g]? = _
  rw [Array.getElem?_modify, if_pos rfl, h]
  rfl
theorem put_take (d : List Int) (cur : Array Value) (h : d.length ≤ cur.size) : (putCells (Value.int .i64) 0 d.toArray cur).toList.take d.length = i64s d := by
  apply List.ext_getElem?
  intro j
  rw [List.getElem?_take]
  by_cases hj : j < d.length
  · rw [if_pos hj, Array.getElem?_toList]
    unfold putCells
    rw [Array.getElem?_mapIdx, Array.getElem?_eq_getElem (by omega), i64s_get d j hj]
    simp [hj]
  · rw [if_neg hj, List.getElem?_eq_none (by rw [i64s_length]; omega)]
theorem holds_of {w : World} {g : Nat} {t : TypeId} {cs : Array Value} {zs : List Int} (hB : Blk w g t cs) (ht : cs.toList.take zs.length = i64s zs) : Go.Sort.Holds (Value.int .i64) w g 0 zs.toArray := fun j hj => by
  have hj' : j < zs.length := by simpa using hj
  refine ⟨?_, hB.frozen _⟩
  have e := congrArg (fun l => l[j]?) ht
  simp only [List.getElem?_take, if_pos hj', Array.getElem?_toList] at e
  rw [Nat.zero_add, hB.cell j, e, i64s_get zs j hj', getElem!_pos zs.toArray j hj]
  simp
/-- slices.Sort at a list of the call's own. -/
theorem sort_own {w : World} {g cap : Nat} {t : TypeId} {cs : Array Value} {zs : List Int} (hB : Blk w g t cs) (ht : cs.toList.take zs.length = i64s zs) (hz : zs.length < 1048576) (hc : zs.length ≤ cs.size) :
    Calls Try.prog 61 #[.slice (some ⟨g, 0, none⟩) zs.length cap] w fun e w' => e = .returned (.tuple #[]) ∧ ∃ cs', Blk w' g t cs' ∧ cs'.size = cs.size ∧ cs'.toList.take zs.length = i64s (zs.mergeSort fun x y => decide (x ≤ y)) ∧ Below g w w' := by
  have hl : (zs.mergeSort fun x y => decide (x ≤ y)).length = zs.length := List.length_mergeSort zs
  refine (Try.slices_Sort_int g 0 cap zs w (holds_of hB ht) hB.lt (by omega)).mono ?_
  rintro e w' ⟨rfl, n, os, rfl⟩
  refine ⟨rfl, _, blk_put hB _ n _ os, by simp [putCells], ?_, below_put _ w g n _ os hB.lt⟩
  rw [← hl]
  exact put_take _ cs (by omega)
theorem compact_len (zs : List Int) : (Lib.compact zs).length ≤ zs.length := by
  unfold Lib.compact Lib.compactUpTo
  rw [List.length_map]
  exact Nat.le_trans (List.length_filter_le _ _) (by simp)
/-- slices.Compact at a list of the call's own. -/
theorem compact_own {w : World} {g cap : Nat} {t : TypeId} {cs : Array Value} {zs : List Int} (hB : Blk w g t cs) (ht : cs.toList.take zs.length = i64s zs) (hz : zs.length < 1048576) (hc : zs.length ≤ cs.size) (hcap : zs.length ≤ cap) :
    Calls Try.prog 62 #[.slice (some ⟨g, 0, none⟩) zs.length cap] w fun e w' => e = .returned (.slice (some ⟨g, 0, none⟩) (Lib.compact zs).length cap) ∧ Row w' (some ⟨g, 0, none⟩) (i64s (Lib.compact zs)) ∧ Below g w w' := by
  have hl := compact_len zs
  refine (Try.slices_Compact_int g 0 cap zs w (holds_of hB ht) (by omega) hcap).mono ?_
  rintro e w' ⟨rfl, q, rfl⟩
  have hb := below_put (Value.int .i64) w g q (Lib.compact zs ++ List.replicate (zs.length - (Lib.compact zs).length) 0).toArray #[] hB.lt
  have hk := blk_put hB (Value.int .i64) q (Lib.compact zs ++ List.replicate (zs.length - (Lib.compact zs).length) 0).toArray #[]
  rw [grow_empty] at hb hk
  refine ⟨rfl, .inr ⟨g, 0, rfl, fun i v hi => ?_⟩, hb⟩
  have hp := put_take (Lib.compact zs ++ List.replicate (zs.length - (Lib.compact zs).length) 0) cs (by simp; omega)
  have hi2 : i < (Lib.compact zs).length := by
    have := (List.getElem?_eq_some_iff.1 hi).1
    rwa [i64s_length] at this
  have e := congrArg (fun l => l[i]?) hp
  simp only [List.getElem?_take, if_pos (show i < (Lib.compact zs ++ List.replicate (zs.length - (Lib.compact zs).length) 0).length by simp; omega), Array.getElem?_toList] at e
  rw [Nat.zero_add, hk.cell i, e, ← hi]
  unfold i64s
  rw [List.map_append, List.getElem?_append_left (by simpa using hi2)]
end Go.Proofs.Ytbeefnekblepfaa
/-
Where places are cut: the program's list. Conditions: 1 to 4096 places, blocks of at least 1, at most 50 more.
-/
set_option linter.unusedVariables false
set_option linter.unusedSimpArgs false
namespace Go.Proofs.Ytbeefnekblepfaa
open Go.RowKit Go.Sort
attribute [local go_sem ↓] Go.wp_at_zero Go.wp_at_succ

/-- A list of ints of the call's own. -/
def OwI (w : World) (lo : Nat) (v : Value) (l : List Int) : Prop := w.ownsRow lo 3 1 v l.length (i64s l) ∧ l ≠ []
theorem OwI.below {w w' : World} {lo : Nat} {v : Value} {l : List Int} (h : OwI w lo v l) (hb : Below w.heap.size w w') : OwI w' lo v l := by
  refine ⟨⟨h.1.1, h.1.2.imp id ?_⟩, h.2⟩
  rintro ⟨g, cap, cur, h1, h2, h3, h4⟩
  have hlt : g < w.heap.size := by
    rcases Nat.lt_or_ge g w.heap.size with hl | hl
    · exact hl
    · rw [Array.getElem?_eq_none hl] at h3; cases h3
  exact ⟨g, cap, cur, h1, h2, (hb.block g hlt).trans h3, h4⟩
theorem OwI.blk {w : World} {lo : Nat} {v : Value} {l : List Int} (h : OwI w lo v l) : ∃ g cap cs, v = .slice (some ⟨g, 0, none⟩) l.length cap ∧ lo ≤ g ∧ Blk w g 3 cs ∧ cs.toList.take l.length = i64s l ∧ l.length ≤ cs.size ∧ l.length ≤ cap := by
  obtain ⟨⟨h0, ⟨_, h1⟩ | ⟨g, cap, cur, h1, h2, h3, h4, h5, h6, h7⟩⟩, hne⟩ := h
  · exact absurd (List.length_eq_zero_iff.1 h1) hne
  · exact ⟨g, cap, cur, h1, h2, h3, by simpa using h7, by omega, h4⟩
/-- What the multiples come to, step by step. -/
def MulS (N S q p : Nat) : Prop := p = q * S ∧ ∀ j, j < q → j * S < N
theorem MulS.next {N S q p : Nat} (h : MulS N S q p) (hp : p < N) : MulS N S (q + 1) (p + S) := by
  refine ⟨by rw [h.1, Nat.add_mul]; omega, fun j hj => ?_⟩
  by_cases e : j = q
  · subst e; rw [← h.1]; exact hp
  · exact h.2 j (by omega)
/-- No sum goes beyond an int. -/
theorem MulS.room {N S q p : Nat} (h : MulS N S q p) (hp : p < N) (hN : N ≤ 4096) (hS : S < 9223372036854775808) : p + S < 9223372036854775808 := by
  by_cases e : q = 0
  · have := h.1; subst e; simp at this; omega
  · by_cases e1 : q = 1
    · have := h.1; subst e1; simp at this; omega
    · have h2 := h.2 1 (by omega); omega
theorem MulS.len {N S q p : Nat} (h : MulS N S q p) (hS : 1 ≤ S) : q ≤ N := by
  rcases Nat.eq_zero_or_pos q with e | e
  · omega
  · have h2 := h.2 (q - 1) (by omega)
    have : q - 1 ≤ (q - 1) * S := Nat.le_mul_of_pos_right _ hS
    omega
theorem mults_length (S q : Nat) : (mults S q).length = q := by simp [mults]
/-- What of more is among n places. -/
def inN (N : Nat) (l : List Int) : List Int := l.filter fun p => decide (0 ≤ p) && decide (p ≤ (N : Int))
theorem inN_take {N : Nat} {l : List Int} {k : Nat} (h : k < l.length) : inN N (l.take (k + 1)) = inN N (l.take k) ++ if (decide (0 ≤ l[k]) && decide (l[k] ≤ (N : Int))) = true then [l[k]] else [] := by
  unfold inN
  rw [List.take_succ_eq_append_getElem h, List.filter_append]
  congr 1
  by_cases e : (decide (0 ≤ l[k]) && decide (l[k] ≤ (N : Int))) = true
  · rw [if_pos e]
    simp only [List.filter_cons, e, if_true, List.filter_nil]
  · rw [if_neg e]
    simp only [List.filter_cons, if_neg e, List.filter_nil]
/-- The list of ints, one more at its end. -/
theorem owi_snoc {w' : World} {lo : Nat} {v : Value} {l : List Int} {x : Int} {n : Nat} (hn : n = l.length) (h : w'.ownsRow lo 3 1 v (n + 1) (i64s l ++ [.int .i64 x])) : OwI w' lo v (l ++ [x]) := by
  refine ⟨?_, by simp⟩
  rw [i64s_snoc, List.length_append, List.length_singleton, ← hn]
  exact h
def CutR (C : List Int) (w : World) (e : Ending) (w' : World) : Prop := ∃ g cap, e = .returned (.slice (some ⟨g, 0, none⟩) C.length cap) ∧ Row w' (some ⟨g, 0, none⟩) (i64s C) ∧ C.length ≤ cap ∧ w.heap.size ≤ g ∧ g < w'.heap.size ∧ Below w.heap.size w w'
theorem one_cell {W : World} {b : Nat} {t : TypeId} {x : Value} (h : Blk W b t #[x]) : ∀ (j : Nat) (u : Value), [x][j]? = some u → W.cell? ((⟨b, 0, none⟩ : Addr).add j) = some u := fun j u hj => by
  match j, hj with
  | 0, hj =>
    have : u = x := by simpa using hj.symm
    subst this
    exact h.cell 0
  | j + 1, hj => simp at hj

set_option maxRecDepth 100000 in
set_option maxHeartbeats 1000000 in
theorem cuts_any (N S : Nat) (A : Option Addr) (n c : Nat) (l : List Int) (w : World) (hN : 1 ≤ N) (hN2 : N ≤ 4096) (hS : 1 ≤ S) (hS2 : S < 9223372036854775808) (hA : Row w A (i64s l)) (hln : l.length = n) (hl : l.length ≤ 50) :
    Calls Try.prog 54 #[.int .i64 (N : Int), .int .i64 (S : Int), .slice A n c] w (CutR (cuts N S l) w) := by
  obtain ⟨i0, hi, hz0, hz1, hz2⟩ := ii0
  have HA := Lib.hid hA
  have HN := Lib.hid hN
  have Hln := Lib.hid hln
  have HS := Lib.hid hS
  have HL := Lib.hid hl
  clear hA hl hln
  go_enter Try.func54, Try.ntmps54
  have HO := Lib.hid (show OwI (w.alloc (.cells #[.int .i64 (N : Int)] 3)) w.heap.size (.slice (some ⟨w.heap.size, 0, none⟩) 1 1) ((N : Int) :: (mults S 0 ++ inN N (l.take 0))) from ⟨own_one w _ _, by simp⟩)
  have HB := Lib.hid ((Below.refl w.heap.size w).alloc (Nat.le_refl _) (.cells #[.int .i64 (N : Int)] 3))
  go_wp2_with fail
  generalize hw1 : w.alloc (.cells #[.int .i64 (N : Int)] 3) = w1 at *
  have Hw1 := Lib.hid (show w.heap.size ≤ w1.heap.size from HB.out.size)
  clear hw1
  go_loopw [7, 8] (fun out a wr => ∃ q p : Nat, a = .int .i64 (p : Int) ∧ Hid (MulS N S q p) ∧ OwI wr w.heap.size out ((N : Int) :: (mults S q ++ inN N (l.take 0))) ∧ Below w.heap.size w wr) (fun _ a _ => N - (intOf a).toNat)
  case atStart => exact ⟨0, 0, rfl, Lib.hid ⟨by simp, fun j h => by omega⟩, HO.out, HB.out⟩
  case round =>
    obtain ⟨q, p, rfl, HM, hown, hbl⟩ := hrel
    have HBl := Lib.hid hbl
    have HOw := Lib.hid hown
    clear hown hbl
    by_cases hlt : p < N
    · have hpc : (p : Int) < (N : Int) := by omega
      have hroom := HM.out.room hlt hN2 hS2
      have HM2 := Lib.hid (HM.out.next hlt)
      have hqN := HM.out.len HS.out
      have HN2 := Lib.hid (Blk.new wr 3 #[.int .i64 (p : Int)])
      have HOw2 := Lib.hid (HOw.out.1.alloc (.cells #[.int .i64 (p : Int)] 3))
      have hlen : ((N : Int) :: (mults S q ++ inN N (l.take 0))).length = q + 1 := by simp [mults_length, inN]
      rw [hlen] at HOw2
      have HBs := Lib.hid HBl.out.size
      go_wp2_with (at_builtin; refine wpList_append_own _ rfl _ _ 85 rfl w.heap.size 3 i0 (.int .i64 0) 1 8 Try.underlying85 hi hz0 hz1 hz2 rfl (by decide) _ (q + 1) (i64s ((N : Int) :: (mults S q ++ inN N (l.take 0)))) rfl HOw2.out ⟨wr.heap.size, 0, none⟩ 1 1 [.int .i64 (p : Int)] rfl rfl ?c1 (by intro u hu; simp at hu; subst hu; rfl) ?c3 ?c4 ?c5 ?_)
      case c1 => exact one_cell HN2.out
      case c3 => unfold maxLen; omega
      case c4 => omega
      case c5 => simp; have := HBs.out; omega
      intro v' w' hown' hgrow _
      have HOw3 := Lib.hid (show OwI w' w.heap.size v' ((N : Int) :: (mults S (q + 1) ++ inN N (l.take 0))) from by
        have h := owi_snoc hlen.symm hown'
        rw [mults_succ, ← HM.out.1]
        simpa [inN] using h)
      have HBl3 := Lib.hid ((HBl.out.alloc HBl.out.size (.cells #[.int .i64 (p : Int)] 3)).grown hgrow (by simp; have := HBs.out; omega) (fun k hk => by have := (HOw2.out.lt k hk).1; omega))
      clear hown' hgrow
      have HS' := HS.out
      go_wp2_with fail
      go_roundw
      case rel => exact ⟨q + 1, p + S, by go_num, HM2, HOw3.out, HBl3.out⟩
      case measure => simp [intOf]; omega
    · have hpc : ¬ (p : Int) < (N : Int) := by omega
      have HRaw := Lib.hid (show ∀ Z, raw N S q l = Z → Lib.compact (Z.mergeSort fun x y => decide (x ≤ y)) = cuts N S l from fun Z hZ => hZ ▸ raw_cuts l hN hS HM.out.2 (by rw [← HM.out.1]; omega))
      have hqN := Lib.hid (HM.out.len hS)
      clear HM
      go_wp2_with fail
      have HnL := Lib.hid (show n ≤ 50 by rw [← Hln.out]; exact HL.out)
      clear hN hS hS2 hlt
      go_loopw [7, 25] (fun out a w2 => ∃ k : Nat, k ≤ n ∧ a = .int .i64 (k : Int) ∧ OwI w2 w.heap.size out ((N : Int) :: (mults S q ++ inN N (l.take k))) ∧ Below w.heap.size w w2) (fun _ a _ => n - (intOf a).toNat)
      case atStart => exact ⟨0, Nat.zero_le _, rfl, HOw.out, HBl.out⟩
      case round =>
        obtain ⟨k, hk, rfl, hown, hbl⟩ := hrel
        have HBm := Lib.hid hbl
        have HOm := Lib.hid hown
        clear hown hbl
        by_cases hlk : k < n
        · have hkc : (k : Int) < (n : Int) := by omega
          have hkl : k < l.length := by rw [Hln.out]; exact hlk
          obtain ⟨b, x, rfl, _, hcell0⟩ := HA.out.at_ (i64s_get l _ hkl)
          have hcell := cell_below hcell0 HBm.out
          clear hcell0
          have HT := Lib.hid (inN_take (N := N) hkl)
          have hk1 : k + 1 ≤ 1048576 := by have := HnL.out; omega
          generalize hzv : l[k] = z at *
          clear hzv hkl
          by_cases gz1 : (0 : Int) ≤ z
          · by_cases gz2 : z ≤ (N : Int)
            · have HN2 := Lib.hid (Blk.new wr 3 #[.int .i64 z])
              have HOw2 := Lib.hid (HOm.out.1.alloc (.cells #[.int .i64 z] 3))
              obtain ⟨m, hm⟩ : ∃ m, ((N : Int) :: (mults S q ++ inN N (l.take k))).length = m := ⟨_, rfl⟩
              have hmb : m ≤ 5000 := by
                rw [← hm]
                simp only [List.length_cons, List.length_append, mults_length]
                have h1 : (inN N (l.take k)).length ≤ k := Nat.le_trans (List.length_filter_le _ _) (by simp; omega)
                have := HnL.out
                have := hqN.out
                omega
              rw [hm] at HOw2
              have HBs := Lib.hid HBm.out.size
              go_wp2_with (at_builtin; refine wpList_append_own _ rfl _ _ 85 rfl w.heap.size 3 i0 (.int .i64 0) 1 8 Try.underlying85 hi hz0 hz1 hz2 rfl (by decide) _ m (i64s ((N : Int) :: (mults S q ++ inN N (l.take k)))) rfl HOw2.out ⟨wr.heap.size, 0, none⟩ 1 1 [.int .i64 z] rfl rfl ?c1 (by intro u hu; simp at hu; subst hu; rfl) ?c3 ?c4 ?c5 ?_)
              case c1 => exact one_cell HN2.out
              case c3 => unfold maxLen; omega
              case c4 => omega
              case c5 => simp; have := HBs.out; omega
              intro v' w' hown' hgrow _
              have HOw3 := Lib.hid (show OwI w' w.heap.size v' ((N : Int) :: (mults S q ++ inN N (l.take (k + 1)))) from by
                have h := owi_snoc hm.symm hown'
                rw [HT.out, if_pos (by simp [gz1, gz2])]
                simpa using h)
              have HBl3 := Lib.hid ((HBm.out.alloc HBm.out.size (.cells #[.int .i64 z] 3)).grown hgrow (by simp; have := HBs.out; omega) (fun k hk => by have := (HOw2.out.lt k hk).1; omega))
              clear hown' hgrow
              go_wp2_with fail
              go_roundw
              case rel => exact ⟨k + 1, by omega, by go_num, HOw3.out, HBl3.out⟩
              case measure => simp [intOf]; omega
            · have HOw3 := Lib.hid (show OwI wr w.heap.size _ ((N : Int) :: (mults S q ++ inN N (l.take (k + 1)))) from by
                rw [HT.out, if_neg (by simp [gz2])]
                simpa using HOm.out)
              go_wp2_with fail
              go_roundw
              case rel => exact ⟨k + 1, by omega, by go_num, HOw3.out, HBm.out⟩
              case measure => simp [intOf]; omega
          · have HOw3 := Lib.hid (show OwI wr w.heap.size _ ((N : Int) :: (mults S q ++ inN N (l.take (k + 1)))) from by
              rw [HT.out, if_neg (by simp [gz1])]
              simpa using HOm.out)
            go_wp2_with fail
            go_roundw
            case rel => exact ⟨k + 1, by omega, by go_num, HOw3.out, HBm.out⟩
            case measure => simp [intOf]; omega
        · obtain rfl : k = n := by omega
          have hkc : ¬ (k : Int) < (k : Int) := by omega
          obtain ⟨Z, hZ⟩ : ∃ Z, (N : Int) :: (mults S q ++ inN N (l.take k)) = Z := ⟨_, rfl⟩
          have hZ2 : raw N S q l = Z := by rw [← hZ, ← Hln.out, List.take_length]; rfl
          have hR := HRaw.out Z hZ2
          rw [hZ] at HOm
          have hZl : Z.length ≤ 5000 := by
            rw [← hZ]
            simp only [List.length_cons, List.length_append, mults_length]
            have h1 : (inN N (l.take k)).length ≤ k := Nat.le_trans (List.length_filter_le _ _) (by simp; omega)
            have := HnL.out
            have := hqN.out
            omega
          clear hZ hZ2
          obtain ⟨g, cap, cs, rfl, hg, hB, ht, hcs, hcap⟩ := HOm.out.blk
          have HSo := Lib.hid (sort_own (cap := cap) hB ht (by omega) hcs)
          have HBk := Lib.hid hB
          clear hB ht
          obtain ⟨zl, hzl⟩ : ∃ zl, Z.length = zl := ⟨_, rfl⟩
          rw [hzl] at HSo
          go_wp2_with fail
          refine HSo.out.mono ?_
          rintro e w3 ⟨rfl, cs', hB', hs', ht', hb'⟩
          have hl2 : (Z.mergeSort fun x y => decide (x ≤ y)).length = zl := by rw [List.length_mergeSort]; exact hzl
          have HCo := Lib.hid (compact_own (cap := cap) hB' (by rw [hl2]; exact ht') (by omega) (by omega) (by omega))
          rw [hl2, hR] at HCo
          have HBe := Lib.hid (HBm.out.trans (hb'.mono hg))
          have hg3 := hB'.lt
          have HCl := Lib.hid (show (cuts N S l).length ≤ cap by rw [← hR]; exact Nat.le_trans (compact_len _) (by omega))
          clear hB' ht' hb' hR
          go_wp2_with fail
          refine HCo.out.mono ?_
          rintro e w4 ⟨rfl, hrow, hb⟩
          have HBf := Lib.hid (HBe.out.trans (hb.mono hg))
          have HRow := Lib.hid hrow
          have hg4 : g < w4.heap.size := Nat.lt_of_lt_of_le hg3 hb.size
          clear hrow hb
          go_wp2_with fail
          go_ret
          exact ⟨g, cap, rfl, HRow.out, HCl.out, hg, hg4, HBf.out⟩
end Go.Proofs.Ytbeefnekblepfaa
/-
Blocks: where n places are cut. Conditions: at most 50 more places.
-/
set_option linter.unusedVariables false
set_option linter.unusedSimpArgs false
set_option linter.unnecessarySimpa false
namespace Go.Proofs.Ytbeefnekblepfaa
open Go.RowKit Go.Sort
attribute [local go_sem ↓] Go.wp_at_zero Go.wp_at_succ


theorem info_pair : (Try.prog.info? 64).map (fun i => (i.zero, i.size, i.bytes)) = some (some (.agg #[.int .i64 0, .int .i64 0]), 2, 16) := by kernel_rfl
theorem ip0 : ∃ i, Try.prog.info? 64 = some i ∧ i.zero = some (.agg #[.int .i64 0, .int .i64 0]) ∧ i.size = 2 ∧ i.bytes = 16 := by
  obtain ⟨i, hi, h⟩ := Option.map_eq_some_iff.1 info_pair
  simp only [Prod.mk.injEq] at h
  exact ⟨i, hi, h.1, h.2.1, h.2.2⟩
theorem ownsRow_row {w : World} {lo n sz : Nat} {t : TypeId} {v : Value} {xs : List Value} (h : w.ownsRow lo t sz v n xs) : ∃ A c, v = .slice A n c ∧ Row w A xs := by
  obtain ⟨h0, ⟨rfl, rfl⟩ | ⟨g, cap, cur, h1, h2, h3, h4, h5, h6, h7⟩⟩ := h
  · exact ⟨none, 0, rfl, .inl (List.length_eq_zero_iff.1 (by omega))⟩
  · refine ⟨_, cap, h1, .inr ⟨g, 0, rfl, fun i u hi => ?_⟩⟩
    rw [Nat.zero_add, Blk.cell (t := t) h3 i]
    rw [← h7, List.getElem?_take] at hi
    split at hi
    · rw [← Array.getElem?_toList]; exact hi
    · cases hi
theorem one_pair {W : World} {b : Nat} {t : TypeId} {x y : Value} (h : Blk W b t #[x, y]) : ∀ (j : Nat) (u : Value), [x, y][j]? = some u → W.cell? ((⟨b, 0, none⟩ : Addr).add j) = some u := fun j u hj => by
  match j, hj with
  | 0, hj =>
    have : u = x := by simpa using hj.symm
    subst this
    exact h.cell 0
  | 1, hj =>
    have : u = y := by simpa using hj.symm
    subst this
    exact h.cell 1
  | j + 2, hj => simp at hj
/-- A list that is being made longer by one pair. -/
def ApP (lo : Nat) (L : List Value) (x y : Value) (w wr : World) (db da : Bool) (vb va : Value) (W : World) : Prop :=
  (da = false → Below wr.heap.size wr W ∧ (db = true → ∃ g, vb = .slice (some ⟨g, 0, none⟩) 1 1 ∧ Blk W g 64 #[x, y])) ∧
  (da = true → W.ownsRow lo 64 2 va (L.length / 2 + 1) (L ++ [x, y]) ∧ Below lo w W)
theorem ApP.made {lo : Nat} {L : List Value} {x y : Value} {w wr : World} {vb va : Value} {W : World} (h : ApP lo L x y w wr false false vb va W) :
    ApP lo L x y w wr true false (.slice (some ⟨W.heap.size, 0, none⟩) 1 1) va (W.alloc (.cells #[x, y] 64)) :=
  ⟨fun _ => ⟨(h.1 rfl).1.trans (((Below.refl W.heap.size W).alloc (Nat.le_refl _) _).mono (h.1 rfl).1.size), fun _ => ⟨_, rfl, Blk.new W 64 #[x, y]⟩⟩, fun e => by cases e⟩
theorem ApP.app {lo m : Nat} {L : List Value} {a b : Int} {w wr : World} {vb va out : Value} {W : World} (h : ApP lo L (.int .i64 a) (.int .i64 b) w wr true false vb va W) (hout : wr.ownsRow lo 64 2 out m L) (hbl : Below lo w wr) (hlo : lo ≤ wr.heap.size) (hm : m ≤ 5000) :
    ∃ g v' w', vb = .slice (some ⟨g, 0, none⟩) 1 1 ∧ (Builtin.append_ #[62, 62] 62 #[out, .slice (some ⟨g, 0, none⟩) 1 1]).run Try.prog W = .ok v' w' ∧ ApP lo L (.int .i64 a) (.int .i64 b) w wr true true vb v' w' := by
  obtain ⟨i0, hi, hz0, hz1, hz2⟩ := ip0
  obtain ⟨hb, hx⟩ := h.1 rfl
  obtain ⟨g, e1, e2⟩ := hx rfl
  have hO : W.ownsRow lo 64 2 out m L := hout.kept (row := none) ⟨hb.os, hb.tape, hb.output, hb.size, fun k hk _ => hb.block k hk⟩ (by cases out.ownBlock <;> simp)
  obtain ⟨v', w', r1, r2, r3, _⟩ := run_append_own W lo 62 62 64 i0 _ 2 16 Try.underlying62 hi hz0 hz1 hz2 rfl (by decide) out m L hO ⟨g, 0, none⟩ 1 1 [.int .i64 a, .int .i64 b] rfl
    (one_pair e2) (by intro u hu; simp at hu; rcases hu with rfl | rfl <;> rfl) (by unfold maxLen; omega) (by omega) (by have := hb.size; omega)
  have hl : L.length / 2 = m := by rw [hO.1]; omega
  refine ⟨g, v', w', e1, r1, ⟨(fun e => by cases e), fun _ => ⟨by rw [hl]; exact r2, ?_⟩⟩⟩
  exact (hbl.trans (hb.mono hlo)).grown r3 (Nat.le_trans hlo hb.size) (fun k hk => (hO.lt k hk).1)
/-- The call returned m blocks. -/
def BlkR (C : List Int) (m : Nat) (w : World) (e : Ending) (w' : World) : Prop := ∃ A c, e = .returned (.slice A m c) ∧ Row w' A (prs C m) ∧ Below w.heap.size w w'

theorem blocks_bad (n size : Int) (v : Value) (w : World) (h : n < 1 ∨ 4096 < n ∨ size < 1) :
    Calls Try.prog 48 #[.int .i64 n, .int .i64 size, v] w (BlkR [] 0 w) := by
  by_cases h1 : n < 1
  · go_enter Try.func48, Try.ntmps48
    go_wp2_with fail
    go_ret
    exact ⟨none, 0, rfl, .inl rfl, Below.refl _ _⟩
  · by_cases h2 : (4096 : Int) < n
    · go_enter Try.func48, Try.ntmps48
      go_wp2_with fail
      go_ret
      exact ⟨none, 0, rfl, .inl rfl, Below.refl _ _⟩
    · have h3 : size < 1 := by omega
      go_enter Try.func48, Try.ntmps48
      go_wp2_with fail
      go_ret
      exact ⟨none, 0, rfl, .inl rfl, Below.refl _ _⟩

set_option maxRecDepth 100000 in
set_option maxHeartbeats 2000000 in
theorem blocks_ok (N S : Nat) (A : Option Addr) (n c : Nat) (l : List Int) (w : World) (hN : 1 ≤ N) (hN2 : N ≤ 4096) (hS : 1 ≤ S) (hS2 : S < 9223372036854775808) (hA : Row w A (i64s l)) (hln : l.length = n) (hl : l.length ≤ 50) :
    Calls Try.prog 48 #[.int .i64 (N : Int), .int .i64 (S : Int), .slice A n c] w (BlkR (cuts N S l) ((cuts N S l).length - 1) w) := by
  obtain ⟨i0, hi, hz0, hz1, hz2⟩ := ip0
  have HCu := Lib.hid (cuts_any N S A n c l w hN hN2 hS hS2 hA hln hl)
  have hC2 := (cuts_end (S := S) (l := l) hN).2
  have hC3 : (cuts N S l).length ≤ N + 1 := cutsTo_len N
  obtain ⟨C, hC⟩ : ∃ C, cuts N S l = C := ⟨_, rfl⟩
  rw [hC] at HCu hC2 hC3
  rw [hC]
  obtain ⟨m, hm⟩ : ∃ m, C.length = m + 1 := ⟨C.length - 1, by omega⟩
  obtain ⟨M, hM⟩ : ∃ M, C.length = M := ⟨_, rfl⟩
  have e1 : C.length - 1 = m := by omega
  rw [e1]
  have HM := Lib.hid hM
  have HMm := Lib.hid (show M = m + 1 by omega)
  have Hm := Lib.hid (show 1 ≤ m ∧ m ≤ 4096 by omega)
  have HCb := Lib.hid (show ∀ i, 0 ≤ C.getD i 0 ∧ C.getD i 0 ≤ 4096 from fun i => by rw [← hC]; have := cuts_in (N := N) (S := S) (l := l) N i; unfold cuts; omega)
  have hn1 : ¬ (N : Int) < 1 := by omega
  have hn2 : ¬ (4096 : Int) < (N : Int) := by omega
  have hs1 : ¬ (S : Int) < 1 := by omega
  clear hC hC2 hC3 hm e1 hM hN hN2 hS hS2 hA hln hl
  go_enter Try.func48, Try.ntmps48
  go_wp2_with fail
  refine HCu.out.mono ?_
  rintro e w1 ⟨g, cap, rfl, hrow, hcap, hg, hgl, hb⟩
  rw [HM.out] at hcap ⊢
  have HRow := Lib.hid hrow
  have HB1 := Lib.hid hb
  have Hg := Lib.hid (And.intro hg hgl)
  have hw1 : wrap64 ((M : Int) - 1) = (m : Int) := by rw [HMm.out]; have := Hm.out; rw [wrap_id] <;> (try unfold I64) <;> omega
  have hM1 : M - 1 = m := by rw [HMm.out]; rfl
  have hc1 : ¬ cap = 1 := by have := Hm.out; have := HMm.out; omega
  have h1M : (1 : Int) ≤ (M : Int) := by have := HMm.out; omega
  have hMc : M ≤ cap := hcap
  clear hrow hb hg hgl hcap
  go_wp2_with (at_make; refine wpList_make_own _ rfl _ _ 62 rfl w1.heap.size 64 i0 (.agg #[.int .i64 0, .int .i64 0]) 2 Try.underlying62 hi hz0 hz1 .i64 .i64 (m : Int) m rfl (by simp [Act.eval, hw1]) rfl ?m1 ?m2 ?m3 ?_)
  case m1 => rw [hz2]; have := Hm.out; omega
  case m2 => have := Hm.out; unfold maxLen; omega
  case m3 => exact Nat.le_refl _
  intro w2 hown hgrow
  have HOw0 := Lib.hid hown
  have HB2 := Lib.hid (show Below w1.heap.size w1 w2 from ⟨hgrow.os, hgrow.tape, hgrow.output, hgrow.size, fun k hk => hgrow.block k hk (fun e => by cases e)⟩)
  clear hown hgrow hw1
  go_wp2_with fail
  clear hM1 hc1 h1M
  go_loopw [8, 32] (fun out a wr => ∃ q : Nat, q ≤ m ∧ a = .int .i64 (q : Int) ∧ wr.ownsRow w1.heap.size 64 2 out q (prs C q) ∧ Below w1.heap.size w1 wr) (fun _ a _ => m - (intOf a).toNat)
  case atStart => exact ⟨0, Nat.zero_le _, rfl, HOw0.out, HB2.out⟩
  case round =>
    clear HOw0 HB2
    obtain ⟨q, hq, rfl, hown, hbl⟩ := hrel
    have HBl := Lib.hid hbl
    have HOw := Lib.hid hown
    clear hown hbl
    by_cases hlt : q < m
    · have hqc : (q : Int) < (m : Int) := by omega
      have HRw := Lib.hid (HRow.out.below HBl.out)
      have HQl := Lib.hid (show q + 1 < C.length by rw [HM.out, HMm.out]; omega)
      have hcells : wr.cell? ⟨g, q, none⟩ = some (.int .i64 (C.getD q 0)) ∧ wr.cell? ⟨g, 1 + q, none⟩ = some (.int .i64 (C.getD (q + 1) 0)) := by
        have hQl := HQl.out
        rcases HRw.out with h0 | ⟨b9, o9, e9, hc9⟩
        · have := congrArg List.length h0
          simp [i64s] at this
          rw [this] at hQl; simp at hQl
        · simp only [Option.some.injEq, Addr.mk.injEq] at e9
          obtain ⟨rfl, rfl, _⟩ := e9
          have h1 := hc9 q _ (i64s_get C q (by omega))
          have h2 := hc9 (q + 1) _ (i64s_get C (q + 1) (by omega))
          rw [Nat.zero_add] at h1 h2
          rw [Nat.add_comm 1 q, h1, h2, List.getD_eq_getElem?_getD, List.getD_eq_getElem?_getD, List.getElem?_eq_getElem (by omega), List.getElem?_eq_getElem hQl]
          exact ⟨rfl, rfl⟩
      have HPs0 := Lib.hid (prs_succ C q)
      have HQb := Lib.hid (show q ≤ 5000 by have := Hm.out; omega)
      have HPl := Lib.hid (show (prs C q).length / 2 = q by rw [prs_length]; omega)
      obtain ⟨a, ha⟩ : ∃ a, C.getD q 0 = a := ⟨_, rfl⟩
      obtain ⟨b, hb⟩ : ∃ b, C.getD (q + 1) 0 = b := ⟨_, rfl⟩
      have hCb : (0 ≤ a ∧ a ≤ 4096) ∧ 0 ≤ b ∧ b ≤ 4096 := by
        rw [← ha, ← hb]
        exact ⟨HCb.out q, HCb.out (q + 1)⟩
      have hab : IntKind.i64.wrap (b - a) = b - a := wrapi (by omega) (by omega)
      rw [ha, hb] at hcells HPs0
      obtain ⟨dd, hdd⟩ : ∃ dd, b - a = dd := ⟨_, rfl⟩
      have hsub : IntKind.i64.wrap (b - a) = dd := by rw [hab]; exact hdd
      rw [hdd] at HPs0
      have HPs := Lib.hid (show prs C (q + 1) = prs C q ++ [.int .i64 a, .int .i64 dd] from HPs0.out)
      have HCq := Lib.hid hcells.1
      have hc2 := hcells.2
      have bq : q < M := by rw [HMm.out]; omega
      have hq1 : q + 1 ≤ 1048576 := by have := HQb.out; omega
      clear hcells ha hb hCb hab hdd
      go_wp2_with fail
      clear hc2
      refine wp_region_inv [37, 38, 39, 40, 41, 42, 43, 44, 45, 46, 47, 48, 49, 50, 8] (fun d s W => (d 0 = true → s 37 = u8) ∧ (d 1 = true → s 38 = .slice (some ⟨g, 0, none⟩) M cap) ∧ (d 2 = true → s 39 = .int .i64 (q : Int)) ∧ (d 3 = true → s 40 = .pointer (some ⟨g, q, none⟩)) ∧ (d 4 = true → s 41 = .int .i64 a) ∧ (d 5 = true → s 42 = .int .i64 b) ∧ (d 6 = true → s 43 = .slice (some ⟨g, 0, none⟩) M cap) ∧ (d 7 = true → s 44 = .int .i64 (q : Int)) ∧ (d 8 = true → s 45 = .pointer (some ⟨g, q, none⟩)) ∧ (d 9 = true → s 46 = .int .i64 a) ∧ (d 10 = true → s 47 = .int .i64 dd) ∧ (d 11 = true → s 48 = .agg #[.int .i64 a, .int .i64 dd]) ∧ (d 14 = true → s 8 = s 50) ∧ (d 14 = true → d 13 = true) ∧ (d 14 = true → d 0 = true) ∧ (d 14 = false → s 8 = u8) ∧ (d 3 = true → d 1 = true ∧ d 2 = true) ∧ (d 4 = true → d 1 = true ∧ d 2 = true ∧ d 3 = true) ∧ (d 8 = true → d 6 = true ∧ d 7 = true) ∧ (d 9 = true → d 6 = true ∧ d 7 = true ∧ d 8 = true) ∧ (d 10 = true → d 5 = true ∧ d 6 = true ∧ d 7 = true ∧ d 8 = true ∧ d 9 = true) ∧ (d 11 = true → d 1 = true ∧ d 2 = true ∧ d 3 = true ∧ d 4 = true ∧ d 5 = true ∧ d 6 = true ∧ d 7 = true ∧ d 8 = true ∧ d 9 = true ∧ d 10 = true) ∧ (d 12 = true → d 1 = true ∧ d 2 = true ∧ d 3 = true ∧ d 4 = true ∧ d 5 = true ∧ d 6 = true ∧ d 7 = true ∧ d 8 = true ∧ d 9 = true ∧ d 10 = true ∧ d 11 = true) ∧ (d 13 = true → d 0 = true ∧ d 1 = true ∧ d 2 = true ∧ d 3 = true ∧ d 4 = true ∧ d 5 = true ∧ d 6 = true ∧ d 7 = true ∧ d 8 = true ∧ d 9 = true ∧ d 10 = true ∧ d 11 = true ∧ d 12 = true) ∧ ApP w1.heap.size (prs C q) (.int .i64 a) (.int .i64 dd) w1 wr (d 12) (d 13) (s 49) (s 50) W)
        rfl (by kernel_rfl) ?_ ?_ ?_
      · exact ⟨by simp, by simp, by simp, by simp, by simp, by simp, by simp, by simp, by simp, by simp, by simp, by simp, by simp, by simp, by simp, fun _ => by simp, by simp, by simp, by simp, by simp, by simp, by simp, by simp, by simp, ⟨fun _ => ⟨(Below.refl _ _).drew, fun e => by simp at e⟩, fun e => by simp at e⟩⟩
      · refine ⟨?_, ?_, ?_, ?_, ?_, ?_, ?_, ?_, ?_, ?_, ?_, ?_, ?_, ?_, ?_, trivial⟩
        all_goals
          intro d s W hJ hfr hd hdep
          simp only [List.mem_cons, forall_eq_or_imp, List.not_mem_nil, false_implies, implies_true, and_true, Region.binds] at hdep
          have f7 := hfr 7 (by decide)
          have f9 := hfr 9 (by decide)
          have f10 := hfr 10 (by decide)
          simp at f7 f9 f10 hdep
          obtain ⟨h0, h1, h2, h3, h4, h5, h6, h7, h8, h9, h10, h11, h14, x0, x1, x2, x3, x4, x5, x6, x7, x8, x9, x10, hT⟩ := hJ
        · have hl : d 13 = false := by
            cases h : d 13
            · rfl
            · have := x10 h; simp [hd] at this
          rw [hl] at hT
          unfold OpSteps
          have e8 : d 14 = false := by
            cases h : d 14
            · rfl
            · have := x1 h; simp [hd] at this
          have f8 := x2 e8
          simp [go_sem, evS, f8]
          exact ⟨fun _ => by simp [sput], fun h => by simpa [sput] using h1 (by simpa [did] using h), fun h => by simpa [sput] using h2 (by simpa [did] using h), fun h => by simpa [sput] using h3 (by simpa [did] using h), fun h => by simpa [sput] using h4 (by simpa [did] using h), fun h => by simpa [sput] using h5 (by simpa [did] using h), fun h => by simpa [sput] using h6 (by simpa [did] using h), fun h => by simpa [sput] using h7 (by simpa [did] using h), fun h => by simpa [sput] using h8 (by simpa [did] using h), fun h => by simpa [sput] using h9 (by simpa [did] using h), fun h => by simpa [sput] using h10 (by simpa [did] using h), fun h => by simpa [sput] using h11 (by simpa [did] using h), fun h => by simpa [sput] using h14 (by simpa [did] using h), by simpa [sput, did] using x0, fun h => by have := x1 (by simpa [did] using h); simp [did, this], fun h => by simpa [sput] using x2 (by simpa [did] using h), fun h => by have := x3 (by simpa [did] using h); simp [did, this], fun h => by have := x4 (by simpa [did] using h); simp [did, this], fun h => by have := x5 (by simpa [did] using h); simp [did, this], fun h => by have := x6 (by simpa [did] using h); simp [did, this], fun h => by have := x7 (by simpa [did] using h); simp [did, this], fun h => by have := x8 (by simpa [did] using h); simp [did, this], fun h => by have := x9 (by simpa [did] using h); simp [did, this], fun h => by have := x10 (by simpa [did] using h); simp [did, this], by simpa [did, sput, hl] using hT⟩
        · have hl : d 13 = false := by
            cases h : d 13
            · rfl
            · have := x10 h; simp [hd] at this
          rw [hl] at hT
          unfold OpSteps
          simp [go_sem, evS, f7]
          exact ⟨fun h => by simpa [sput] using h0 (by simpa [did] using h), fun _ => by simp [sput], fun h => by simpa [sput] using h2 (by simpa [did] using h), fun h => by simpa [sput] using h3 (by simpa [did] using h), fun h => by simpa [sput] using h4 (by simpa [did] using h), fun h => by simpa [sput] using h5 (by simpa [did] using h), fun h => by simpa [sput] using h6 (by simpa [did] using h), fun h => by simpa [sput] using h7 (by simpa [did] using h), fun h => by simpa [sput] using h8 (by simpa [did] using h), fun h => by simpa [sput] using h9 (by simpa [did] using h), fun h => by simpa [sput] using h10 (by simpa [did] using h), fun h => by simpa [sput] using h11 (by simpa [did] using h), fun h => by simpa [sput] using h14 (by simpa [did] using h), by simpa [sput, did] using x0, fun h => by have := x1 (by simpa [did] using h); simp [did, this], fun h => by simpa [sput] using x2 (by simpa [did] using h), fun h => by have := x3 (by simpa [did] using h); simp [did, this], fun h => by have := x4 (by simpa [did] using h); simp [did, this], fun h => by have := x5 (by simpa [did] using h); simp [did, this], fun h => by have := x6 (by simpa [did] using h); simp [did, this], fun h => by have := x7 (by simpa [did] using h); simp [did, this], fun h => by have := x8 (by simpa [did] using h); simp [did, this], fun h => by have := x9 (by simpa [did] using h); simp [did, this], fun h => by have := x10 (by simpa [did] using h); simp [did, this], by simpa [did, sput, hl] using hT⟩
        · have hl : d 13 = false := by
            cases h : d 13
            · rfl
            · have := x10 h; simp [hd] at this
          rw [hl] at hT
          unfold OpSteps
          simp [go_sem, evS, f9]
          exact ⟨fun h => by simpa [sput] using h0 (by simpa [did] using h), fun h => by simpa [sput] using h1 (by simpa [did] using h), fun _ => by simp [sput], fun h => by simpa [sput] using h3 (by simpa [did] using h), fun h => by simpa [sput] using h4 (by simpa [did] using h), fun h => by simpa [sput] using h5 (by simpa [did] using h), fun h => by simpa [sput] using h6 (by simpa [did] using h), fun h => by simpa [sput] using h7 (by simpa [did] using h), fun h => by simpa [sput] using h8 (by simpa [did] using h), fun h => by simpa [sput] using h9 (by simpa [did] using h), fun h => by simpa [sput] using h10 (by simpa [did] using h), fun h => by simpa [sput] using h11 (by simpa [did] using h), fun h => by simpa [sput] using h14 (by simpa [did] using h), by simpa [sput, did] using x0, fun h => by have := x1 (by simpa [did] using h); simp [did, this], fun h => by simpa [sput] using x2 (by simpa [did] using h), fun h => by have := x3 (by simpa [did] using h); simp [did, this], fun h => by have := x4 (by simpa [did] using h); simp [did, this], fun h => by have := x5 (by simpa [did] using h); simp [did, this], fun h => by have := x6 (by simpa [did] using h); simp [did, this], fun h => by have := x7 (by simpa [did] using h); simp [did, this], fun h => by have := x8 (by simpa [did] using h); simp [did, this], fun h => by have := x9 (by simpa [did] using h); simp [did, this], fun h => by have := x10 (by simpa [did] using h); simp [did, this], by simpa [did, sput, hl] using hT⟩
        · have hl : d 13 = false := by
            cases h : d 13
            · rfl
            · have := x10 h; simp [hd] at this
          rw [hl] at hT
          have g1 := h1 (by simp [hdep])
          have g2 := h2 (by simp [hdep])
          unfold OpSteps
          simp [go_sem, evS, g1, g2, bq]
          exact ⟨fun h => by simpa [sput] using h0 (by simpa [did] using h), fun h => by simpa [sput] using h1 (by simpa [did] using h), fun h => by simpa [sput] using h2 (by simpa [did] using h), fun _ => by simp [sput], fun h => by simpa [sput] using h4 (by simpa [did] using h), fun h => by simpa [sput] using h5 (by simpa [did] using h), fun h => by simpa [sput] using h6 (by simpa [did] using h), fun h => by simpa [sput] using h7 (by simpa [did] using h), fun h => by simpa [sput] using h8 (by simpa [did] using h), fun h => by simpa [sput] using h9 (by simpa [did] using h), fun h => by simpa [sput] using h10 (by simpa [did] using h), fun h => by simpa [sput] using h11 (by simpa [did] using h), fun h => by simpa [sput] using h14 (by simpa [did] using h), by simpa [sput, did] using x0, fun h => by have := x1 (by simpa [did] using h); simp [did, this], fun h => by simpa [sput] using x2 (by simpa [did] using h), fun _ => by simp [did, hdep], fun h => by have := x4 (by simpa [did] using h); simp [did, this], fun h => by have := x5 (by simpa [did] using h); simp [did, this], fun h => by have := x6 (by simpa [did] using h); simp [did, this], fun h => by have := x7 (by simpa [did] using h); simp [did, this], fun h => by have := x8 (by simpa [did] using h); simp [did, this], fun h => by have := x9 (by simpa [did] using h); simp [did, this], fun h => by have := x10 (by simpa [did] using h); simp [did, this], by simpa [did, sput, hl] using hT⟩
        · have hl : d 13 = false := by
            cases h : d 13
            · rfl
            · have := x10 h; simp [hd] at this
          rw [hl] at hT
          have g3 := h3 (by simp [hdep])
          unfold OpSteps
          have pc := cell_below HCq.out (hT.1 rfl).1
          simp [go_sem, evS, g3, pc]
          exact ⟨fun h => by simpa [sput] using h0 (by simpa [did] using h), fun h => by simpa [sput] using h1 (by simpa [did] using h), fun h => by simpa [sput] using h2 (by simpa [did] using h), fun h => by simpa [sput] using h3 (by simpa [did] using h), fun _ => by simp [sput], fun h => by simpa [sput] using h5 (by simpa [did] using h), fun h => by simpa [sput] using h6 (by simpa [did] using h), fun h => by simpa [sput] using h7 (by simpa [did] using h), fun h => by simpa [sput] using h8 (by simpa [did] using h), fun h => by simpa [sput] using h9 (by simpa [did] using h), fun h => by simpa [sput] using h10 (by simpa [did] using h), fun h => by simpa [sput] using h11 (by simpa [did] using h), fun h => by simpa [sput] using h14 (by simpa [did] using h), by simpa [sput, did] using x0, fun h => by have := x1 (by simpa [did] using h); simp [did, this], fun h => by simpa [sput] using x2 (by simpa [did] using h), fun h => by have := x3 (by simpa [did] using h); simp [did, this], fun _ => by have y3 := x3 (by simp [hdep]); simp [did, hdep, y3], fun h => by have := x5 (by simpa [did] using h); simp [did, this], fun h => by have := x6 (by simpa [did] using h); simp [did, this], fun h => by have := x7 (by simpa [did] using h); simp [did, this], fun h => by have := x8 (by simpa [did] using h); simp [did, this], fun h => by have := x9 (by simpa [did] using h); simp [did, this], fun h => by have := x10 (by simpa [did] using h); simp [did, this], by simpa [did, sput, hl] using hT⟩
        · have hl : d 13 = false := by
            cases h : d 13
            · rfl
            · have := x10 h; simp [hd] at this
          rw [hl] at hT
          unfold OpSteps
          simp [go_sem, evS, f10]
          exact ⟨fun h => by simpa [sput] using h0 (by simpa [did] using h), fun h => by simpa [sput] using h1 (by simpa [did] using h), fun h => by simpa [sput] using h2 (by simpa [did] using h), fun h => by simpa [sput] using h3 (by simpa [did] using h), fun h => by simpa [sput] using h4 (by simpa [did] using h), fun _ => by simp [sput], fun h => by simpa [sput] using h6 (by simpa [did] using h), fun h => by simpa [sput] using h7 (by simpa [did] using h), fun h => by simpa [sput] using h8 (by simpa [did] using h), fun h => by simpa [sput] using h9 (by simpa [did] using h), fun h => by simpa [sput] using h10 (by simpa [did] using h), fun h => by simpa [sput] using h11 (by simpa [did] using h), fun h => by simpa [sput] using h14 (by simpa [did] using h), by simpa [sput, did] using x0, fun h => by have := x1 (by simpa [did] using h); simp [did, this], fun h => by simpa [sput] using x2 (by simpa [did] using h), fun h => by have := x3 (by simpa [did] using h); simp [did, this], fun h => by have := x4 (by simpa [did] using h); simp [did, this], fun h => by have := x5 (by simpa [did] using h); simp [did, this], fun h => by have := x6 (by simpa [did] using h); simp [did, this], fun h => by have := x7 (by simpa [did] using h); simp [did, this], fun h => by have := x8 (by simpa [did] using h); simp [did, this], fun h => by have := x9 (by simpa [did] using h); simp [did, this], fun h => by have := x10 (by simpa [did] using h); simp [did, this], by simpa [did, sput, hl] using hT⟩
        · have hl : d 13 = false := by
            cases h : d 13
            · rfl
            · have := x10 h; simp [hd] at this
          rw [hl] at hT
          unfold OpSteps
          simp [go_sem, evS, f7]
          exact ⟨fun h => by simpa [sput] using h0 (by simpa [did] using h), fun h => by simpa [sput] using h1 (by simpa [did] using h), fun h => by simpa [sput] using h2 (by simpa [did] using h), fun h => by simpa [sput] using h3 (by simpa [did] using h), fun h => by simpa [sput] using h4 (by simpa [did] using h), fun h => by simpa [sput] using h5 (by simpa [did] using h), fun _ => by simp [sput], fun h => by simpa [sput] using h7 (by simpa [did] using h), fun h => by simpa [sput] using h8 (by simpa [did] using h), fun h => by simpa [sput] using h9 (by simpa [did] using h), fun h => by simpa [sput] using h10 (by simpa [did] using h), fun h => by simpa [sput] using h11 (by simpa [did] using h), fun h => by simpa [sput] using h14 (by simpa [did] using h), by simpa [sput, did] using x0, fun h => by have := x1 (by simpa [did] using h); simp [did, this], fun h => by simpa [sput] using x2 (by simpa [did] using h), fun h => by have := x3 (by simpa [did] using h); simp [did, this], fun h => by have := x4 (by simpa [did] using h); simp [did, this], fun h => by have := x5 (by simpa [did] using h); simp [did, this], fun h => by have := x6 (by simpa [did] using h); simp [did, this], fun h => by have := x7 (by simpa [did] using h); simp [did, this], fun h => by have := x8 (by simpa [did] using h); simp [did, this], fun h => by have := x9 (by simpa [did] using h); simp [did, this], fun h => by have := x10 (by simpa [did] using h); simp [did, this], by simpa [did, sput, hl] using hT⟩
        · have hl : d 13 = false := by
            cases h : d 13
            · rfl
            · have := x10 h; simp [hd] at this
          rw [hl] at hT
          unfold OpSteps
          simp [go_sem, evS, f9]
          exact ⟨fun h => by simpa [sput] using h0 (by simpa [did] using h), fun h => by simpa [sput] using h1 (by simpa [did] using h), fun h => by simpa [sput] using h2 (by simpa [did] using h), fun h => by simpa [sput] using h3 (by simpa [did] using h), fun h => by simpa [sput] using h4 (by simpa [did] using h), fun h => by simpa [sput] using h5 (by simpa [did] using h), fun h => by simpa [sput] using h6 (by simpa [did] using h), fun _ => by simp [sput], fun h => by simpa [sput] using h8 (by simpa [did] using h), fun h => by simpa [sput] using h9 (by simpa [did] using h), fun h => by simpa [sput] using h10 (by simpa [did] using h), fun h => by simpa [sput] using h11 (by simpa [did] using h), fun h => by simpa [sput] using h14 (by simpa [did] using h), by simpa [sput, did] using x0, fun h => by have := x1 (by simpa [did] using h); simp [did, this], fun h => by simpa [sput] using x2 (by simpa [did] using h), fun h => by have := x3 (by simpa [did] using h); simp [did, this], fun h => by have := x4 (by simpa [did] using h); simp [did, this], fun h => by have := x5 (by simpa [did] using h); simp [did, this], fun h => by have := x6 (by simpa [did] using h); simp [did, this], fun h => by have := x7 (by simpa [did] using h); simp [did, this], fun h => by have := x8 (by simpa [did] using h); simp [did, this], fun h => by have := x9 (by simpa [did] using h); simp [did, this], fun h => by have := x10 (by simpa [did] using h); simp [did, this], by simpa [did, sput, hl] using hT⟩
        · have hl : d 13 = false := by
            cases h : d 13
            · rfl
            · have := x10 h; simp [hd] at this
          rw [hl] at hT
          have g6 := h6 (by simp [hdep])
          have g7 := h7 (by simp [hdep])
          unfold OpSteps
          simp [go_sem, evS, g6, g7, bq]
          exact ⟨fun h => by simpa [sput] using h0 (by simpa [did] using h), fun h => by simpa [sput] using h1 (by simpa [did] using h), fun h => by simpa [sput] using h2 (by simpa [did] using h), fun h => by simpa [sput] using h3 (by simpa [did] using h), fun h => by simpa [sput] using h4 (by simpa [did] using h), fun h => by simpa [sput] using h5 (by simpa [did] using h), fun h => by simpa [sput] using h6 (by simpa [did] using h), fun h => by simpa [sput] using h7 (by simpa [did] using h), fun _ => by simp [sput], fun h => by simpa [sput] using h9 (by simpa [did] using h), fun h => by simpa [sput] using h10 (by simpa [did] using h), fun h => by simpa [sput] using h11 (by simpa [did] using h), fun h => by simpa [sput] using h14 (by simpa [did] using h), by simpa [sput, did] using x0, fun h => by have := x1 (by simpa [did] using h); simp [did, this], fun h => by simpa [sput] using x2 (by simpa [did] using h), fun h => by have := x3 (by simpa [did] using h); simp [did, this], fun h => by have := x4 (by simpa [did] using h); simp [did, this], fun _ => by simp [did, hdep], fun h => by have := x6 (by simpa [did] using h); simp [did, this], fun h => by have := x7 (by simpa [did] using h); simp [did, this], fun h => by have := x8 (by simpa [did] using h); simp [did, this], fun h => by have := x9 (by simpa [did] using h); simp [did, this], fun h => by have := x10 (by simpa [did] using h); simp [did, this], by simpa [did, sput, hl] using hT⟩
        · have hl : d 13 = false := by
            cases h : d 13
            · rfl
            · have := x10 h; simp [hd] at this
          rw [hl] at hT
          have g8 := h8 (by simp [hdep])
          unfold OpSteps
          have pc := cell_below HCq.out (hT.1 rfl).1
          simp [go_sem, evS, g8, pc]
          exact ⟨fun h => by simpa [sput] using h0 (by simpa [did] using h), fun h => by simpa [sput] using h1 (by simpa [did] using h), fun h => by simpa [sput] using h2 (by simpa [did] using h), fun h => by simpa [sput] using h3 (by simpa [did] using h), fun h => by simpa [sput] using h4 (by simpa [did] using h), fun h => by simpa [sput] using h5 (by simpa [did] using h), fun h => by simpa [sput] using h6 (by simpa [did] using h), fun h => by simpa [sput] using h7 (by simpa [did] using h), fun h => by simpa [sput] using h8 (by simpa [did] using h), fun _ => by simp [sput], fun h => by simpa [sput] using h10 (by simpa [did] using h), fun h => by simpa [sput] using h11 (by simpa [did] using h), fun h => by simpa [sput] using h14 (by simpa [did] using h), by simpa [sput, did] using x0, fun h => by have := x1 (by simpa [did] using h); simp [did, this], fun h => by simpa [sput] using x2 (by simpa [did] using h), fun h => by have := x3 (by simpa [did] using h); simp [did, this], fun h => by have := x4 (by simpa [did] using h); simp [did, this], fun h => by have := x5 (by simpa [did] using h); simp [did, this], fun _ => by have y8 := x5 (by simp [hdep]); simp [did, hdep, y8], fun h => by have := x7 (by simpa [did] using h); simp [did, this], fun h => by have := x8 (by simpa [did] using h); simp [did, this], fun h => by have := x9 (by simpa [did] using h); simp [did, this], fun h => by have := x10 (by simpa [did] using h); simp [did, this], by simpa [did, sput, hl] using hT⟩
        · have hl : d 13 = false := by
            cases h : d 13
            · rfl
            · have := x10 h; simp [hd] at this
          rw [hl] at hT
          have g5 := h5 (by simp [hdep])
          have g9 := h9 (by simp [hdep])
          unfold OpSteps
          simp [go_sem, evS, g5, g9, hsub]
          exact ⟨fun h => by simpa [sput] using h0 (by simpa [did] using h), fun h => by simpa [sput] using h1 (by simpa [did] using h), fun h => by simpa [sput] using h2 (by simpa [did] using h), fun h => by simpa [sput] using h3 (by simpa [did] using h), fun h => by simpa [sput] using h4 (by simpa [did] using h), fun h => by simpa [sput] using h5 (by simpa [did] using h), fun h => by simpa [sput] using h6 (by simpa [did] using h), fun h => by simpa [sput] using h7 (by simpa [did] using h), fun h => by simpa [sput] using h8 (by simpa [did] using h), fun h => by simpa [sput] using h9 (by simpa [did] using h), fun _ => by simp [sput], fun h => by simpa [sput] using h11 (by simpa [did] using h), fun h => by simpa [sput] using h14 (by simpa [did] using h), by simpa [sput, did] using x0, fun h => by have := x1 (by simpa [did] using h); simp [did, this], fun h => by simpa [sput] using x2 (by simpa [did] using h), fun h => by have := x3 (by simpa [did] using h); simp [did, this], fun h => by have := x4 (by simpa [did] using h); simp [did, this], fun h => by have := x5 (by simpa [did] using h); simp [did, this], fun h => by have := x6 (by simpa [did] using h); simp [did, this], fun _ => by have y9 := x6 (by simp [hdep]); simp [did, hdep, y9], fun h => by have := x8 (by simpa [did] using h); simp [did, this], fun h => by have := x9 (by simpa [did] using h); simp [did, this], fun h => by have := x10 (by simpa [did] using h); simp [did, this], by simpa [did, sput, hl] using hT⟩
        · have hl : d 13 = false := by
            cases h : d 13
            · rfl
            · have := x10 h; simp [hd] at this
          rw [hl] at hT
          have g4 := h4 (by simp [hdep])
          have g10 := h10 (by simp [hdep])
          unfold OpSteps
          simp [go_sem, evS, g4, g10]
          exact ⟨fun h => by simpa [sput] using h0 (by simpa [did] using h), fun h => by simpa [sput] using h1 (by simpa [did] using h), fun h => by simpa [sput] using h2 (by simpa [did] using h), fun h => by simpa [sput] using h3 (by simpa [did] using h), fun h => by simpa [sput] using h4 (by simpa [did] using h), fun h => by simpa [sput] using h5 (by simpa [did] using h), fun h => by simpa [sput] using h6 (by simpa [did] using h), fun h => by simpa [sput] using h7 (by simpa [did] using h), fun h => by simpa [sput] using h8 (by simpa [did] using h), fun h => by simpa [sput] using h9 (by simpa [did] using h), fun h => by simpa [sput] using h10 (by simpa [did] using h), fun _ => by simp [sput], fun h => by simpa [sput] using h14 (by simpa [did] using h), by simpa [sput, did] using x0, fun h => by have := x1 (by simpa [did] using h); simp [did, this], fun h => by simpa [sput] using x2 (by simpa [did] using h), fun h => by have := x3 (by simpa [did] using h); simp [did, this], fun h => by have := x4 (by simpa [did] using h); simp [did, this], fun h => by have := x5 (by simpa [did] using h); simp [did, this], fun h => by have := x6 (by simpa [did] using h); simp [did, this], fun h => by have := x7 (by simpa [did] using h); simp [did, this], fun _ => by have y4 := x4 (by simp [hdep]); have y10 := x7 (by simp [hdep]); simp [did, hdep, y4, y10], fun h => by have := x9 (by simpa [did] using h); simp [did, this], fun h => by have := x10 (by simpa [did] using h); simp [did, this], by simpa [did, sput, hl] using hT⟩
        · have hl : d 13 = false := by
            cases h : d 13
            · rfl
            · have := x10 h; simp [hd] at this
          rw [hl] at hT
          have g11 := h11 (by simp [hdep])
          unfold OpSteps
          simp [go_sem, evS, g11]
          exact ⟨fun h => by simpa [sput] using h0 (by simpa [did] using h), fun h => by simpa [sput] using h1 (by simpa [did] using h), fun h => by simpa [sput] using h2 (by simpa [did] using h), fun h => by simpa [sput] using h3 (by simpa [did] using h), fun h => by simpa [sput] using h4 (by simpa [did] using h), fun h => by simpa [sput] using h5 (by simpa [did] using h), fun h => by simpa [sput] using h6 (by simpa [did] using h), fun h => by simpa [sput] using h7 (by simpa [did] using h), fun h => by simpa [sput] using h8 (by simpa [did] using h), fun h => by simpa [sput] using h9 (by simpa [did] using h), fun h => by simpa [sput] using h10 (by simpa [did] using h), fun h => by simpa [sput] using h11 (by simpa [did] using h), fun h => by simpa [sput] using h14 (by simpa [did] using h), by simpa [sput, did] using x0, fun h => by have := x1 (by simpa [did] using h); simp [did, this], fun h => by simpa [sput] using x2 (by simpa [did] using h), fun h => by have := x3 (by simpa [did] using h); simp [did, this], fun h => by have := x4 (by simpa [did] using h); simp [did, this], fun h => by have := x5 (by simpa [did] using h); simp [did, this], fun h => by have := x6 (by simpa [did] using h); simp [did, this], fun h => by have := x7 (by simpa [did] using h); simp [did, this], fun h => by have := x8 (by simpa [did] using h); simp [did, this], fun _ => by have y11 := x8 (by simp [hdep]); simp [did, hdep, y11], fun h => by have := x10 (by simpa [did] using h); simp [did, this], by rw [hd] at hT; simpa [did, sput, hl] using hT.made⟩
        · have g0 := h0 (by simp [hdep])
          have hd12 : d 12 = true := by simp [hdep]
          rw [hd12, hd] at hT
          obtain ⟨gg, v', w', ga, gb, gc⟩ := hT.app HOw.out HBl.out HBl.out.size HQb.out
          refine opSteps_append _ _ _ rfl (by simp only [evS]; exact g0) (by simp only [evS]; exact ga) gb ?_
          exact ⟨fun h => by simpa [sput] using h0 (by simpa [did] using h), fun h => by simpa [sput] using h1 (by simpa [did] using h), fun h => by simpa [sput] using h2 (by simpa [did] using h), fun h => by simpa [sput] using h3 (by simpa [did] using h), fun h => by simpa [sput] using h4 (by simpa [did] using h), fun h => by simpa [sput] using h5 (by simpa [did] using h), fun h => by simpa [sput] using h6 (by simpa [did] using h), fun h => by simpa [sput] using h7 (by simpa [did] using h), fun h => by simpa [sput] using h8 (by simpa [did] using h), fun h => by simpa [sput] using h9 (by simpa [did] using h), fun h => by simpa [sput] using h10 (by simpa [did] using h), fun h => by simpa [sput] using h11 (by simpa [did] using h), fun h => by have := x0 (by simpa [did] using h); simp [hd] at this, fun _ => by simp [did], fun h => by have := x1 (by simpa [did] using h); simp [did, this], fun h => by simpa [sput] using x2 (by simpa [did] using h), fun h => by have := x3 (by simpa [did] using h); simp [did, this], fun h => by have := x4 (by simpa [did] using h); simp [did, this], fun h => by have := x5 (by simpa [did] using h); simp [did, this], fun h => by have := x6 (by simpa [did] using h); simp [did, this], fun h => by have := x7 (by simpa [did] using h); simp [did, this], fun h => by have := x8 (by simpa [did] using h); simp [did, this], fun h => by have := x9 (by simpa [did] using h); simp [did, this], fun _ => by have y12 := x9 (by simp [hdep]); simp [did, hdep, y12], by simpa [did, sput, hd12, ga] using gc⟩
        · unfold OpSteps
          simp [go_sem, evS]
          exact ⟨fun h => by simpa [sput] using h0 (by simpa [did] using h), fun h => by simpa [sput] using h1 (by simpa [did] using h), fun h => by simpa [sput] using h2 (by simpa [did] using h), fun h => by simpa [sput] using h3 (by simpa [did] using h), fun h => by simpa [sput] using h4 (by simpa [did] using h), fun h => by simpa [sput] using h5 (by simpa [did] using h), fun h => by simpa [sput] using h6 (by simpa [did] using h), fun h => by simpa [sput] using h7 (by simpa [did] using h), fun h => by simpa [sput] using h8 (by simpa [did] using h), fun h => by simpa [sput] using h9 (by simpa [did] using h), fun h => by simpa [sput] using h10 (by simpa [did] using h), fun h => by simpa [sput] using h11 (by simpa [did] using h), fun _ => by simp [sput], fun _ => by simp [did, hdep], fun _ => by first | simp [did, hdep] | (have := x10 (by simp [hdep]); simp [did, this]), fun h => by simp [did] at h, fun h => by have := x3 (by simpa [did] using h); simp [did, this], fun h => by have := x4 (by simpa [did] using h); simp [did, this], fun h => by have := x5 (by simpa [did] using h); simp [did, this], fun h => by have := x6 (by simpa [did] using h); simp [did, this], fun h => by have := x7 (by simpa [did] using h); simp [did, this], fun h => by have := x8 (by simpa [did] using h); simp [did, this], fun h => by have := x9 (by simpa [did] using h); simp [did, this], fun h => by have := x10 (by simpa [did] using h); simp [did, this], by simpa [did, sput] using hT⟩
      intro d s W hJ hd
      obtain ⟨h0, h1, h2, h3, h4, h5, h6, h7, h8, h9, h10, h11, h14, x0, x1, x2, x3, x4, x5, x6, x7, x8, x9, x10, hT⟩ := hJ
      have hs7 : s 8 = s 50 := h14 (hd 14 (by decide))
      have hA := hT.2 (hd 13 (by decide))
      clear h0 h1 h2 h3 h4 h5 h6 h7 h8 h9 h10 h11 h14 x0 x1 x2 x3 x4 x5 x6 x7 x8 x9 x10 hT hd
      obtain ⟨hown, hbl⟩ := hA
      have HOw2 := Lib.hid (show W.ownsRow w1.heap.size 64 2 (s 50) (q + 1) (prs C (q + 1)) by have h9 := hown; rw [HPl.out] at h9; rw [HPs.out]; exact h9)
      have HBl2 := Lib.hid hbl
      clear hown hbl
      simp [setAll, hs7]
      clear hs7
      generalize s 37 = s37
      generalize s 38 = s38
      generalize s 39 = s39
      generalize s 40 = s40
      generalize s 41 = s41
      generalize s 42 = s42
      generalize s 43 = s43
      generalize s 44 = s44
      generalize s 45 = s45
      generalize s 46 = s46
      generalize s 47 = s47
      generalize s 48 = s48
      generalize s 49 = s49
      generalize s 50 = s50 at *
      go_wp2_with fail
      go_roundw
      case rel => exact ⟨q + 1, by omega, by go_num, HOw2.out, HBl2.out⟩
      case measure => simp [intOf]; omega
    · obtain rfl : q = m := by omega
      have hqc : ¬ (q : Int) < (q : Int) := by omega
      obtain ⟨A9, c9, rfl, hrow⟩ := ownsRow_row HOw.out
      have HRw := Lib.hid hrow
      clear hrow
      go_wp2_with fail
      go_ret
      exact ⟨A9, c9, rfl, HRw.out, HB1.out.trans (HBl.out.mono HB1.out.size)⟩
end Go.Proofs.Ytbeefnekblepfaa
