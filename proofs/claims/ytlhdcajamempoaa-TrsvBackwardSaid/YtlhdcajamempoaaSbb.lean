/-
Numbers of a matrix, column by column. Conditions: the matrix is right, its list has at most 2^20 numbers.
-/
import Derived.Test.YtlhdcajamempoaaSba
import Derived.OwnWalk
import Derived.Test.YtlhdcajamempoaaInv
import Derived.Laws.CopyRow
import Derived.Laws.IdiomCopy
set_option linter.unusedVariables false
set_option linter.unusedSimpArgs false
namespace Go.Proofs.Ytlhdcajamempoaa
open Go.RowKit
attribute [local go_sem ↓] Go.wp_at_zero Go.wp_at_succ

/-- The numbers of the first columns, column by column. -/
def colsL (l : List Nat) (o R L : Nat) : Nat → List Nat
  | 0 => []
  | j + 1 => colsL l o R L j ++ lst l (o + j * L) 1 R
theorem colsL_length (l : List Nat) (o R L : Nat) : ∀ j, (colsL l o R L j).length = j * R
  | 0 => by simp [colsL]
  | j + 1 => by rw [colsL, List.length_append, colsL_length l o R L j, lst_length, Nat.add_mul]; omega
theorem colsL_getD (l : List Nat) (o R L : Nat) {a b : Nat} (ha : a < R) : ∀ {j : Nat}, b < j → (colsL l o R L j).getD (b * R + a) 0 = l.getD (o + a + b * L) 0
  | 0, h => by omega
  | j + 1, h => by
    have hlen := colsL_length l o R L j
    rw [colsL]
    by_cases hb : b < j
    · have h1 : b * R + a < j * R := by
        have : (b + 1) * R ≤ j * R := Nat.mul_le_mul_right _ (by omega)
        rw [Nat.add_mul] at this; omega
      rw [List.getD_eq_getElem?_getD, List.getElem?_append_left (by omega), ← List.getD_eq_getElem?_getD]
      exact colsL_getD l o R L ha hb
    · obtain rfl : b = j := by omega
      rw [List.getD_eq_getElem?_getD, List.getElem?_append_right (by omega), ← List.getD_eq_getElem?_getD, hlen, show b * R + a - b * R = a by omega, lst_getD l _ 1 ha]
      congr 1
      omega
theorem mat_size {n o R C L : Nat} (hR : R ≤ L) (hr : R = 0 ∨ C = 0 ∨ o + (C - 1) * L + (R - 1) < n) : R * C ≤ n := by
  by_cases h0 : R = 0
  · subst h0; simp
  by_cases h1 : C = 0
  · subst h1; simp
  have h2 : (C - 1) * R ≤ (C - 1) * L := Nat.mul_le_mul_left _ hR
  have h3 : R * C = (C - 1) * R + R := by
    obtain ⟨C', rfl⟩ : ∃ C', C = C' + 1 := ⟨C - 1, by omega⟩
    rw [Nat.add_sub_cancel, Nat.mul_add, Nat.mul_comm]; omega
  omega
theorem colsL_wds {l : List Nat} (h : Wds l) (o R L : Nat) : ∀ j, Wds (colsL l o R L j)
  | 0 => by intro b hb; cases hb
  | j + 1 => by
    intro b hb
    rw [colsL, List.mem_append] at hb
    rcases hb with hb | hb
    · exact colsL_wds h o R L j b hb
    · unfold lst at hb
      obtain ⟨i, _, rfl⟩ := List.mem_map.1 hb
      rcases Nat.lt_or_ge (o + j * L + i * 1) l.length with h1 | h1
      · rw [getD_of_lt h1]; exact h.at_ _ h1
      · rw [getD_of_le h1]; omega
theorem f64s_app (l m : List Nat) : f64s (l ++ m) = f64s l ++ f64s m := by simp [f64s]

theorem owns_nxt {w w' : World} {B : Nat} {e : TypeId} {s : Nat} {v : Value} {n : Nat} {xs : List Value} (h : w.ownsRow B e s v n xs) (hb : Below w.heap.size w w') : w'.ownsRow B e s v n xs := by
  refine ⟨h.1, h.2.imp id ?_⟩
  rintro ⟨g, cap, cur, h1, h2, h3, h4⟩
  have hg : g < w.heap.size := by
    rcases Nat.lt_or_ge g w.heap.size with hl | hl
    · exact hl
    · rw [Array.getElem?_eq_none hl] at h3; cases h3
  exact ⟨g, cap, cur, h1, h2, (hb.block g hg).trans h3, h4⟩

theorem own_row3 {w : World} {B : Nat} {v : Value} {n : Nat} {l : List Nat} (h : w.ownsRow B 28 1 v n (f64s l)) (hn : n = l.length) : ∃ A c, v = .slice A n c ∧ Row w A (f64s l) ∧ (∀ b o, A = some ⟨b, o, none⟩ → B ≤ b) ∧ n ≤ c := by
  by_cases hv : v = .slice none 0 0
  · subst hv
    have hl := h.1
    obtain ⟨_, ⟨_, h0⟩ | ⟨g, cap, cur, h1, _⟩⟩ := h
    · subst h0
      have : l = [] := List.length_eq_zero_iff.1 hn.symm
      subst this
      exact ⟨none, 0, rfl, .inl rfl, (fun b o e => by cases e), Nat.le_refl _⟩
    · cases h1
  · obtain ⟨g, c, rfl, hg, hc, _, ho⟩ := own_of h hv hn
    exact ⟨_, c, rfl, ho.row, (fun b o e => by injection e with e; injection e with e _; omega), hc⟩
theorem own_row2 {w : World} {B : Nat} {v : Value} {n : Nat} {l : List Nat} (h : w.ownsRow B 28 1 v n (f64s l)) (hn : n = l.length) : ∃ A c, v = .slice A n c ∧ Row w A (f64s l) ∧ ∀ b o, A = some ⟨b, o, none⟩ → B ≤ b := by
  obtain ⟨A, c, h1, h2, h3, _⟩ := own_row3 h hn
  exact ⟨A, c, h1, h2, h3⟩

/-- What Numbers comes to, with its room. -/
def Numr (N : Nat) (X : List Nat) (w : World) (e : Ending) (w' : World) : Prop := ∃ B d, e = .returned (.slice B N d) ∧ Row w' B (f64s X) ∧ (∀ b o, B = some ⟨b, o, none⟩ → w.heap.size ≤ b) ∧ N ≤ d ∧ Below w.heap.size w w'
/-- What Numbers comes to. -/
def Numd (N : Nat) (X : List Nat) (w : World) (e : Ending) (w' : World) : Prop := ∃ B d, e = .returned (.slice B N d) ∧ Row w' B (f64s X) ∧ (∀ b o, B = some ⟨b, o, none⟩ → w.heap.size ≤ b) ∧ Below w.heap.size w w'
theorem nm_facts {R C N n : Nat} (hN : R * C = N) (hNn : N ≤ n) (hn : n < 1048576) (hR0 : R ≠ 0) :
    (R : Int) * (C : Int) = (N : Int) ∧ wrap64 (N : Int) = (N : Int) ∧ IntKind.i64.wrap (N : Int) = (N : Int) ∧ (∀ j, j ≤ C → j * R ≤ N) ∧ C * R = N ∧ N < 1048576 ∧ C < 1048576 := by
  have h1 : C * 1 ≤ C * R := Nat.mul_le_mul_left _ (by omega)
  have h2 : C * R = N := by rw [← hN, Nat.mul_comm]
  have h3 : (R : Int) * (C : Int) = (N : Int) := by rw [← hN, Int.natCast_mul]
  clear hN
  refine ⟨h3, ?_, ?_, fun j hj => ?_, h2, by omega, by omega⟩
  · clear h3; exact wrap_id (by unfold I64; omega)
  · clear h3; exact wrapi (by omega) (by omega)
  · rw [← h2]; exact Nat.mul_le_mul_right _ hj

theorem row_sub {w W : World} {b x P R : Nat} {l : List Nat} (hA : Row w (some ⟨b, x, none⟩) (f64s l)) (hb : Below w.heap.size w W) (hP : P + R ≤ l.length) (i : Nat) (u : Value) (h : (f64s (lst l P 1 R))[i]? = some u) : W.cell? ⟨b, x + P + i, none⟩ = some u := by
  obtain ⟨hi', rfl⟩ := f64s_get? h
  have hi2 := hi'
  rw [lst_length] at hi2
  have hPl : P + i < l.length := by omega
  rcases hA with h0 | ⟨b', x', e', hc⟩
  · have : l = [] := by simpa [f64s] using h0
    subst this; simp at hPl
  · injection e' with e'; injection e' with e1 e2
    subst e1; subst e2
    have h2 := hc (P + i) _ (f64s_get l _ hPl)
    have h3 := cell_below h2 hb
    have h4 : (lst l P 1 R)[i] = l[P + i] := by
      rw [← getD_of_lt hi', lst_getD l P 1 hi2, Nat.mul_one, getD_of_lt hPl]
    rw [h4, Nat.add_assoc]; exact h3
theorem addr_at (b o j : Nat) : (⟨b, o, none⟩ : Addr).add j = ⟨b, o + j, none⟩ := by unfold Addr.add; split <;> simp_all
theorem nm_ne {P R n c : Nat} (hP : P + R ≤ n) (hnc : n ≤ c) (hR : 1 ≤ R) : ¬ c = P := by omega
theorem nm_step {P R n c : Nat} (hP : P + R ≤ n) (hnc : n ≤ c) (hn : n < 1048576) : ∃ Q1 : Nat, P + R = Q1 ∧ (P : Int) + (R : Int) = (Q1 : Int) ∧ IntKind.i64.wrap (Q1 : Int) = (Q1 : Int) ∧ wrap64 (Q1 : Int) = (Q1 : Int) ∧ Q1 - P = R ∧ (P : Int) ≤ (Q1 : Int) ∧ (Q1 : Int) ≤ (c : Int) ∧ (0 : Int) ≤ (P : Int) :=
  ⟨P + R, rfl, by omega, wrapi (by omega) (by omega), wrap_id (by unfold I64; omega), by omega, by omega, by omega, by omega⟩
end Go.Proofs.Ytlhdcajamempoaa
/-
Clone: a new matrix with a matrix' numbers. Conditions: the matrix is right, its list has at most 2^20 numbers, its sizes are at most 64.
-/
set_option linter.unusedVariables false
set_option linter.unusedSimpArgs false
set_option linter.unnecessarySimpa false
namespace Go.Proofs.Ytlhdcajamempoaa
open Go.RowKit
attribute [local go_sem ↓] Go.wp_at_zero Go.wp_at_succ

theorem info1_f64 : (Try.prog.info? 28).map (·.size) = some 1 := by kernel_rfl
/-- What copy comes to where all goes over. -/
theorem run_copy_all (W : World) (ty : TypeId) (g N c d : Nat) (B : Option Addr) (cur : Array Value) (M : List Nat) (hg : Blk W g 28 cur) (hcur : cur.size = N) (hM : M.length = N) (hB : Row W B (f64s M)) :
    ∃ W', (Builtin.copy_ #[24, 24] ty #[.slice (some ⟨g, 0, none⟩) N c, .slice B N d]).run Try.prog W = .ok (goInt N) W' ∧ Blk W' g 28 (f64s M).toArray ∧ Only g W W' := by
  by_cases h0 : N = 0
  · subst h0
    obtain rfl : M = [] := List.length_eq_zero_iff.1 hM
    refine ⟨W, run_copy_none W _ _ _ 28 _ _ _ _ _ _ Try.underlying24 info1_f64 rfl, ?_, Only.refl _ _⟩
    have : cur = #[] := Array.eq_empty_of_size_eq_zero hcur
    subst this; exact hg
  · rcases hB with h | ⟨b, o, rfl, hc⟩
    · have : M = [] := by simpa [f64s] using h
      subst this; simp at hM; omega
    · have hlen : (f64s M).length = N := by simp [f64s, hM]
      have h1 := run_copy_row (P := Try.prog) W 24 24 ty 28 g 0 N c ⟨b, o, none⟩ N d cur 28 (f64s M) Try.underlying24 info1_f64 hg (by rw [hlen]; exact (Nat.min_self N).symm) (fun j v h => by
        have := hc j v h
        rw [addr_at]; exact this) (by rw [hlen]; omega) (one_cells M)
      have e : (List.take 0 cur.toList ++ f64s M ++ List.drop (0 + (f64s M).length) cur.toList).toArray = (f64s M).toArray := by
        rw [hlen, List.drop_eq_nil_of_le (by simp; omega)]; simp
      rw [e, hlen] at h1
      refine ⟨_, h1, setRow_heap W g cur _ _ _ hg, ⟨rfl, rfl, rfl, by simp, fun k hk hne => setRow_other W g k _ (fun e => hne (by rw [e]))⟩⟩
/-- Before and behind the copying. -/
def CopyB (W0 : World) (g : Nat) (X : List Nat) (d4 : Bool) (W : World) : Prop := (d4 = false → Below W0.heap.size W0 W) ∧ (d4 = true → Blk W g 28 (f64s X).toArray ∧ Only g W0 W)
theorem max_int (R C : Nat) : (if (R : Int) < (C : Int) then (C : Int) else (R : Int)) = ((max R C : Nat) : Int) := by split <;> omega

theorem run_max_nat (P : Program) (ts : Array TypeId) (t : TypeId) (x y : Nat) (w : World) : (Builtin.max_ ts t #[.int .i64 (x : Int), .int .i64 (y : Int)]).run P w = .ok (.int .i64 ((max x y : Nat) : Int)) w := by
  rw [← max_int]
  simp [Builtin.max_, Builtin.max2]
attribute [local go_sem ↓] run_max_nat
end Go.Proofs.Ytlhdcajamempoaa
/-
Into by the program: a matrix' numbers, written into another one. Conditions: the matrix that is written has a list of the call's own; its list and the other's have at most 2^20 numbers.
-/
set_option linter.unusedVariables false
set_option linter.unusedSimpArgs false
set_option linter.unnecessarySimpa false
namespace Go.Proofs.Ytlhdcajamempoaa
open Go.RowKit
attribute [local go_sem ↓] Go.wp_at_zero Go.wp_at_succ

theorem run_sameAddr_near {P : Program} {w : World} {b o g : Nat} {t : TypeId} {cs : Array Value} {v : Value} (hne : b ≠ g) (hc : w.cell? ⟨b, o, none⟩ = some v) (hf : w.frozen? ⟨b, o, none⟩ = false) (hB : Blk w g t cs) (hs : 0 < cs.size) :
    (sameAddr ⟨g, 0, none⟩ ⟨b, o, none⟩).run P w = .ok false w := by
  obtain ⟨ca, ta, fr, ha, m, hm⟩ : ∃ ca ta fr, w.heap[b]? = some (.cells ca ta fr) ∧ ∃ m, ca.size = m + 1 := by
    unfold World.cell? at hc
    simp only at hc
    split at hc
    · rename_i ca ta fr h
      refine ⟨ca, ta, fr, h, ca.size - 1, ?_⟩
      have h1 := (Array.getElem?_eq_some_iff.1 hc).1
      omega
    · cases hc
  have hg := hB
  unfold Blk at hg
  have hs0 : cs.size ≠ 0 := by omega
  obtain ⟨lo, hi⟩ := fr
  have hf' : (decide (lo ≤ o) && decide (o < hi)) = false := by
    simpa [World.frozen?, ha] using hf
  have hg2 : g ≠ b := fun e => hne e.symm
  cases h1 : decide (lo ≤ m + 1) && decide (m + 1 < hi)
  all_goals simp [sameAddr, hg2, World.frozen?, ha, hg, hf', noView, viewAt, World.shape?, mayBeOne, stringish, hs0, h1, hm]
theorem run_eql_near {W : World} {b o g : Nat} {t : TypeId} {cs : Array Value} {v : Value} (hne : b ≠ g) (hc : W.cell? ⟨b, o, none⟩ = some v) (hf : W.frozen? ⟨b, o, none⟩ = false) (hB : Blk W g t cs) (hs : 0 < cs.size) :
    (binOp .eql 118 (.pointer (some ⟨g, 0, none⟩)) (.pointer (some ⟨b, o, none⟩))).run Try.prog W = .ok (.bool false) W := by
  have hz : (Try.prog.info? 28).map (fun i => i.size) = some 1 := by kernel_rfl
  obtain ⟨j, hj, hsz⟩ := Option.map_eq_some_iff.1 hz
  have h0 := run_sameAddr_near (P := Try.prog) hne hc hf hB hs
  have h : ∀ d : Nat, (Op.equalIn (d + 1) 118 (.pointer (some ⟨g, 0, none⟩)) (.pointer (some ⟨b, o, none⟩))).run Try.prog W = .ok false W := fun d => by
    simp [Op.equalIn, run_underlying Try.underlying118, sizeOf, typeInfo, hj, hsz, h0]
  simp only [binOp]
  simp [Op.equal, Op.maxDepth, h 9999]
theorem both_pos2 {n n' : Nat} {off r k ld off' r' k' ld' : Int} (h : bothB n off r k ld n' off' r' k' ld' = true) : 0 < n ∧ 0 < n' := by
  unfold bothB at h
  simp only [Bool.and_eq_true, Bool.not_eq_true', Bool.or_eq_false_iff, beq_eq_false_iff_ne, ne_eq] at h
  have g1 := of_decide_eq_true h.1.1.1
  have g2 := of_decide_eq_true h.1.1.2
  have h0 : 0 ≤ (k - 1) * ld := Int.mul_nonneg (by omega) (by omega)
  have h1 : 0 ≤ (k' - 1) * ld' := Int.mul_nonneg (by omega) (by omega)
  omega
/-- A matrix in a list of the call's own never meets one of the caller's. -/
theorem meet_mine (g cN : Nat) (l : List Nat) (n : Nat) (off r k ld : Int) (A : Option Addr) (n' c' : Nat) (l' : List Nat) (off' r' k' ld' : Int) (w : World) (hO : Own w g l) (hl : l.length = n) (hA : Row w A (f64s l')) (hl' : l'.length = n') (hfz : ∀ b o, A = some ⟨b, o, none⟩ → l' ≠ [] → w.frozen? ⟨b, o, none⟩ = false) (hne : ∀ b o, A = some ⟨b, o, none⟩ → l' ≠ [] → b ≠ g)
    (hn : n < 9223372036854775808) (hn' : n' < 9223372036854775808) (ho : I64 off) (hr : I64 r) (hk : I64 k) (hi : I64 ld) (ho' : I64 off') (hr' : I64 r') (hk' : I64 k') (hi' : I64 ld') :
    Calls Try.prog 82 #[mat (some ⟨g, 0, none⟩) n cN off r k ld, mat A n' c' off' r' k' ld'] w fun e w' => e = .returned (.bool false) ∧ Below w.heap.size w w' := by
  cases hb : bothB n off r k ld n' off' r' k' ld'
  · exact meet_none _ _ cN off r k ld _ _ c' off' r' k' ld' w hn ho hr hk hi hn' ho' hr' hk' hi' hb
  · have h0 := both_pos2 hb
    have hl2 : l' ≠ [] := by rintro rfl; simp at hl'; omega
    obtain ⟨b, o, rfl, hbl, hcell⟩ := hA.at_ (f64s_get l' 0 (by omega))
    have hfr := hfz b o rfl hl2
    have hbg := hne b o rfl hl2
    refine meet_far g 0 _ cN off r k ld b o _ c' off' r' k' ld' w hn ho hr hk hi hn' ho' hr' hk' hi' hb h0.1 h0.2 fun W hW => ?_
    obtain ⟨cs, hB, ht⟩ := hO.nxt hW
    refine run_eql_near hbg (cell_below hcell hW) ((hW.frozen (p := ⟨b, o, none⟩) hbl).trans hfr) hB ?_
    have h1 : (cs.toList.take l.length).length = l.length := by rw [ht]; simp [f64s]
    rw [List.length_take] at h1
    simp at h1; omega

/-- Why nothing is written. -/
def intoI (n : Nat) (off r k ld : Int) (n' : Nat) (off' r' k' ld' : Int) : Int := if (matB n off r k ld && matB n' off' r' k' ld') = true then (if r = r' ∧ k = k' then 0 else 3) else 1
end Go.Proofs.Ytlhdcajamempoaa
