/-
ViewMeets. Conditions: the first cell of the list isn't shared with a string.
-/
import Derived.Test.YtbeefnekblepfaaUaaf
import Derived.KernelRfl
set_option linter.unusedVariables false
namespace Go.Proofs.Ytbeefnekblepfaa
open Go.RowKit
attribute [local go_sem ↓] Go.wp_at_zero Go.wp_at_succ

theorem run_sameAddr_far {P : Program} {w : World} {b o g : Nat} {t : TypeId} {cs : Array Value} {v : Value} (hne : b ≠ g) (hc : w.cell? ⟨b, o, none⟩ = some v) (hf : w.frozen? ⟨b, o, none⟩ = false) (hB : Blk w g t cs) (hs : 0 < cs.size) :
    (sameAddr ⟨b, o, none⟩ ⟨g, 0, none⟩).run P w = .ok false w := by
  obtain ⟨ca, ta, fr, ha, m, hm⟩ : ∃ ca ta fr, w.heap[b]? = some (.cells ca ta fr) ∧ ∃ m, ca.size = m + 1 := by
    unfold World.cell? at hc
    simp only at hc
    split at hc
    · rename_i ca ta fr h
      refine ⟨ca, ta, fr, h, ca.size - 1, ?_⟩
      have h1 := (Array.getElem?_eq_some_iff.1 hc).1
      omega
    · cases hc
  have hg := hB
  unfold Blk at hg
  have hs0 : cs.size ≠ 0 := by omega
  obtain ⟨lo, hi⟩ := fr
  have hf' : (decide (lo ≤ o) && decide (o < hi)) = false := by
    simpa [World.frozen?, ha] using hf
  have hg2 : g ≠ b := fun e => hne e.symm
  cases h1 : decide (lo ≤ m + 1) && decide (m + 1 < hi)
  all_goals simp [sameAddr, hne, World.frozen?, ha, hg, hf', noView, viewAt, World.shape?, mayBeOne, stringish, hs0, h1, hm]
theorem run_eql_far {W : World} {b o g : Nat} {t : TypeId} {cs : Array Value} {v : Value} (hne : b ≠ g) (hc : W.cell? ⟨b, o, none⟩ = some v) (hf : W.frozen? ⟨b, o, none⟩ = false) (hB : Blk W g t cs) (hs : 0 < cs.size) :
    (binOp .eql 71 (.pointer (some ⟨b, o, none⟩)) (.pointer (some ⟨g, 0, none⟩))).run Try.prog W = .ok (.bool false) W := by
  have hz : (Try.prog.info? 23).map (fun i => i.size) = some 1 := by kernel_rfl
  obtain ⟨j, hj, hsz⟩ := Option.map_eq_some_iff.1 hz
  have h0 := run_sameAddr_far (P := Try.prog) hne hc hf hB hs
  have h : ∀ d : Nat, (Op.equalIn (d + 1) 71 (.pointer (some ⟨b, o, none⟩)) (.pointer (some ⟨g, 0, none⟩))).run Try.prog W = .ok false W := fun d => by
    simp [Op.equalIn, run_underlying Try.underlying71, sizeOf, typeInfo, hj, hsz, h0]
  simp only [binOp]
  simp [Op.equal, Op.maxDepth, h 9999]

theorem both_pos {n n' : Nat} {off r k ld off' r' k' ld' : Int} (h : bothB n off r k ld n' off' r' k' ld' = true) : 0 < n := by
  unfold bothB at h
  simp only [Bool.and_eq_true, Bool.not_eq_true', Bool.or_eq_false_iff, beq_eq_false_iff_ne, ne_eq] at h
  have g1 := of_decide_eq_true h.1.1.1
  have h0 : 0 ≤ (k - 1) * ld := Int.mul_nonneg (by omega) (by omega)
  omega

theorem meet_apart (A : Option Addr) (c : Nat) (l : List Nat) (off r k ld : Int) (g cN : Nat) (off' r' k' ld' : Int) (w : World) (hA : Row w A (f64s l)) (hfz : ∀ b o, A = some ⟨b, o, none⟩ → l ≠ [] → w.frozen? ⟨b, o, none⟩ = false) (hO : Own w g l) (hne : ∀ b o, A = some ⟨b, o, none⟩ → l ≠ [] → b ≠ g)
    (hn : l.length < 9223372036854775808) (ho : I64 off) (hr : I64 r) (hk : I64 k) (hi : I64 ld) (ho' : I64 off') (hr' : I64 r') (hk' : I64 k') (hi' : I64 ld') :
    Calls Try.prog 32 #[mat A l.length c off r k ld, mat (some ⟨g, 0, none⟩) l.length cN off' r' k' ld'] w fun e w' => e = .returned (.bool false) ∧ Below w.heap.size w w' := by
  cases hb : bothB l.length off r k ld l.length off' r' k' ld'
  · exact meet_none A _ c off r k ld _ _ cN off' r' k' ld' w hn ho hr hk hi hn ho' hr' hk' hi' hb
  · have h0 : 0 < l.length := both_pos hb
    have hl : l ≠ [] := by rintro rfl; simp at h0
    obtain ⟨b, o, rfl, hbl, hcell⟩ := hA.at_ (f64s_get l 0 h0)
    have hfr := hfz b o rfl hl
    have hbg := hne b o rfl hl
    refine meet_far b o _ c off r k ld g 0 _ cN off' r' k' ld' w hn ho hr hk hi hn ho' hr' hk' hi' hb h0 h0 fun W hW => ?_
    obtain ⟨cs, hB, ht⟩ := hO.nxt hW
    refine run_eql_far hbg (cell_below hcell hW) ((hW.frozen (p := ⟨b, o, none⟩) hbl).trans hfr) hB ?_
    have h1 : (cs.toList.take l.length).length = l.length := by rw [ht]; simp [f64s]
    rw [List.length_take] at h1
    simp at h1; omega

/-- What the law expects. -/
def wantB (n : Nat) (off r k ld off' r' k' ld' : Int) : Bool := bothB n off r k ld n off' r' k' ld' && (decide (off ≤ lastI off' r' k' ld') && decide (off' ≤ lastI off r k ld))
theorem meet_one (A : Option Addr) (c : Nat) (l : List Nat) (off r k ld off' r' k' ld' : Int) (w : World) (hA : Row w A (f64s l))
    (hn : l.length < 9223372036854775808) (ho : I64 off) (hr : I64 r) (hk : I64 k) (hi : I64 ld) (ho' : I64 off') (hr' : I64 r') (hk' : I64 k') (hi' : I64 ld') :
    Calls Try.prog 32 #[mat A l.length c off r k ld, mat A l.length c off' r' k' ld'] w fun e w' => e = .returned (.bool (wantB l.length off r k ld off' r' k' ld')) ∧ Below w.heap.size w w' := by
  unfold wantB
  cases hb : bothB l.length off r k ld l.length off' r' k' ld'
  · exact meet_none A _ c off r k ld A _ c off' r' k' ld' w hn ho hr hk hi hn ho' hr' hk' hi' hb
  · have h0 : 0 < l.length := both_pos hb
    obtain ⟨b, o, rfl, hbl, hcell⟩ := hA.at_ (f64s_get l 0 h0)
    rw [Bool.true_and]
    exact meet_same b o _ c off r k ld _ c off' r' k' ld' w hn ho hr hk hi hn ho' hr' hk' hi' hb h0 h0
theorem both_comm (n : Nat) (off r k ld : Int) (off' r' k' ld' : Int) : bothB n off r k ld n off' r' k' ld' = bothB n off' r' k' ld' n off r k ld := by
  unfold bothB
  cases matB n off r k ld <;> cases matB n off' r' k' ld' <;> cases (r == 0 || k == 0) <;> cases (r' == 0 || k' == 0) <;> rfl
theorem want_comm (n : Nat) (off r k ld off' r' k' ld' : Int) : wantB n off r k ld off' r' k' ld' = wantB n off' r' k' ld' off r k ld := by
  unfold wantB
  rw [both_comm, Bool.and_comm (decide (off ≤ _))]

theorem both_why {n : Nat} {off r k ld off' r' k' ld' : Int} (h : bothB n off r k ld n off' r' k' ld' = false) :
    matB n off r k ld = false ∨ matB n off r k ld = true ∧ (matB n off' r' k' ld' = false ∨ matB n off' r' k' ld' = true ∧ (r ≤ 0 ∨ 0 < r ∧ (k ≤ 0 ∨ 0 < k ∧ (r' ≤ 0 ∨ 0 < r' ∧ k' ≤ 0)))) := by
  unfold bothB at h
  cases h1 : matB n off r k ld
  · exact .inl rfl
  cases h2 : matB n off' r' k' ld'
  · exact .inr ⟨rfl, .inl rfl⟩
  refine .inr ⟨rfl, .inr ⟨rfl, ?_⟩⟩
  have g1 := of_decide_eq_true h1
  have g2 := of_decide_eq_true h2
  rw [h1, h2] at h
  simp at h
  omega

end Go.Proofs.Ytbeefnekblepfaa
/-
Lists: numbers that are taken from places and written to places. Conditions: as each says.
-/
set_option linter.unusedVariables false
namespace Go.Proofs.Ytbeefnekblepfaa

/-- What lies in the blocks, where block g holds l. -/
def upd (s : Nat → List Nat) (g : Nat) (l : List Nat) : Nat → List Nat := fun h => if h = g then l else s h
theorem upd_self (s : Nat → List Nat) (g : Nat) (l : List Nat) : upd s g l g = l := by simp [upd]
theorem upd_ne {s : Nat → List Nat} {g h : Nat} {l : List Nat} (hne : h ≠ g) : upd s g l h = s h := by simp [upd, hne]
theorem upd_upd (s : Nat → List Nat) (g : Nat) (l m : List Nat) : upd (upd s g l) g m = upd s g m := by
  funext h; unfold upd; split <;> rfl
theorem upd_same (s : Nat → List Nat) (g : Nat) : upd s g (s g) = s := by
  funext h; unfold upd; split
  · rename_i e; rw [e]
  · rfl
theorem upd_comm (s : Nat → List Nat) {g h : Nat} (hne : g ≠ h) (l m : List Nat) : upd (upd s g l) h m = upd (upd s h m) g l := by
  funext x; unfold upd; split
  · rename_i e
    rw [if_neg (by omega)]
  · rfl

theorem getD_of_lt {l : List Nat} {i : Nat} (h : i < l.length) : l.getD i 0 = l[i] := by simp [List.getD, h]
theorem getD_of_le {l : List Nat} {i : Nat} (h : l.length ≤ i) : l.getD i 0 = 0 := by simp [List.getD, List.getElem?_eq_none h]
theorem getD_set_self {l : List Nat} {i : Nat} (h : i < l.length) (v : Nat) : (l.set i v).getD i 0 = v := by simp [List.getD, h]
theorem getD_set_ne (l : List Nat) {i j : Nat} (h : i ≠ j) (v : Nat) : (l.set i v).getD j 0 = l.getD j 0 := by
  rw [List.getD, List.getElem?_set_ne h, List.getD]
theorem ext_getD {l m : List Nat} (hl : l.length = m.length) (h : ∀ i, i < l.length → l.getD i 0 = m.getD i 0) : l = m := by
  refine List.ext_getElem hl fun i h1 h2 => ?_
  have := h i h1
  rwa [getD_of_lt h1, getD_of_lt h2] at this

/-- The numbers at off, off + inc, .. -/
def lst (l : List Nat) (off inc k : Nat) : List Nat := (List.range k).map fun i => l.getD (off + i * inc) 0
theorem lst_length (l : List Nat) (off inc k : Nat) : (lst l off inc k).length = k := by simp [lst]
theorem lst_getD (l : List Nat) (off inc : Nat) {k i : Nat} (h : i < k) : (lst l off inc k).getD i 0 = l.getD (off + i * inc) 0 := by
  simp [lst, List.getD, h]
theorem lst_snoc (l : List Nat) (off inc k : Nat) : lst l off inc (k + 1) = lst l off inc k ++ [l.getD (off + k * inc) 0] := by
  simp [lst, List.range_succ]
/-- The numbers are written there. -/
def wrt (l : List Nat) (off inc : Nat) (q : List Nat) : Nat → List Nat
  | 0 => l
  | k + 1 => (wrt l off inc q k).set (off + k * inc) (q.getD k 0)
theorem wrt_length (l : List Nat) (off inc : Nat) (q : List Nat) (k : Nat) : (wrt l off inc q k).length = l.length := by
  induction k with
  | zero => rfl
  | succ k ih => simp [wrt, ih]
theorem wrt_else (l : List Nat) (off inc : Nat) (q : List Nat) (k : Nat) {x : Nat} (h : ∀ i, i < k → x ≠ off + i * inc) : (wrt l off inc q k).getD x 0 = l.getD x 0 := by
  induction k with
  | zero => rfl
  | succ k ih =>
    rw [wrt, getD_set_ne _ (fun e => h k (by omega) e.symm)]
    exact ih fun i hi => h i (by omega)
theorem place_inj {off inc i j : Nat} (hi : 1 ≤ inc) (h : off + i * inc = off + j * inc) : i = j := Nat.eq_of_mul_eq_mul_right hi (by omega)
theorem place_lt {n off inc k i : Nat} (h : off + (k - 1) * inc < n) (hi : i < k) : off + i * inc < n := by
  have : i * inc ≤ (k - 1) * inc := Nat.mul_le_mul_right _ (by omega)
  omega
theorem wrt_at (l : List Nat) (off inc : Nat) (q : List Nat) (k : Nat) (hi : 1 ≤ inc) (hk : k = 0 ∨ off + (k - 1) * inc < l.length) {i : Nat} (h : i < k) : (wrt l off inc q k).getD (off + i * inc) 0 = q.getD i 0 := by
  induction k with
  | zero => omega
  | succ k ih =>
    have hlt : off + k * inc < l.length := by
      rcases hk with hk | hk
      · omega
      · simpa using hk
    by_cases e : i = k
    · subst e
      rw [wrt, getD_set_self (by rw [wrt_length]; exact hlt)]
    · rw [wrt, getD_set_ne _ (fun e' => e (place_inj hi e'.symm))]
      refine ih ?_ (by omega)
      rcases Nat.eq_zero_or_pos k with h0 | h0
      · exact .inl h0
      · refine .inr ?_
        have : (k - 1) * inc ≤ k * inc := Nat.mul_le_mul_right _ (by omega)
        omega
theorem set_comm_ne {α : Type} (l : List α) {i j : Nat} (h : i ≠ j) (a b : α) : (l.set i a).set j b = (l.set j b).set i a := List.set_comm a b h
theorem wrt_set (l : List Nat) (off inc : Nat) (q : List Nat) (k : Nat) {x v : Nat} (h : ∀ i, i < k → x ≠ off + i * inc) : (wrt l off inc q k).set x v = wrt (l.set x v) off inc q k := by
  induction k with
  | zero => rfl
  | succ k ih =>
    rw [wrt, wrt, List.set_comm _ _ (fun e => h k (by omega) e.symm), ih fun i hi => h i (by omega)]

/-- Copied one by one: the next number. -/
theorem copy_step {s : Nat → List Nat} {g g' off inc off' inc' K k : Nat} (hk : k < K) (hm : g = g' → ∀ i, i < K → ∀ j, j < K → off + i * inc ≠ off' + j * inc') :
    ((upd s g (wrt (s g) off inc (lst (s g') off' inc' K) k)) g').getD (off' + k * inc') 0 = (lst (s g') off' inc' K).getD k 0 := by
  rw [lst_getD _ _ _ hk]
  by_cases e : g' = g
  · subst e
    rw [upd_self, wrt_else]
    intro i hi e
    exact hm rfl i (by omega) k hk e.symm
  · rw [upd_ne e]

/-- Changed one by one, each for the other: what lies there when the first k are. -/
def swapd (s : Nat → List Nat) (g off inc g' off' inc' K k : Nat) : Nat → List Nat :=
  upd (upd s g (wrt (s g) off inc (lst (s g') off' inc' K) k)) g' (wrt ((upd s g (wrt (s g) off inc (lst (s g') off' inc' K) k)) g') off' inc' (lst (s g) off inc K) k)
theorem swapd_zero (s : Nat → List Nat) (g off inc g' off' inc' K : Nat) : swapd s g off inc g' off' inc' K 0 = s := by
  unfold swapd
  simp only [wrt, upd_same]
theorem swapd_len (s : Nat → List Nat) (g off inc g' off' inc' K k h : Nat) : (swapd s g off inc g' off' inc' K k h).length = (s h).length := by
  unfold swapd upd
  split
  · rename_i e
    subst e
    rw [wrt_length]
    split
    · rename_i e; subst e; rw [wrt_length]
    · rfl
  · split
    · rename_i e; subst e; rw [wrt_length]
    · rfl
theorem swapd_right {s : Nat → List Nat} {g g' off inc off' inc' K k : Nat} (hk : k < K) (hi' : 1 ≤ inc') (hm : g = g' → ∀ i, i < K → ∀ j, j < K → off + i * inc ≠ off' + j * inc') :
    (swapd s g off inc g' off' inc' K k g').getD (off' + k * inc') 0 = (lst (s g') off' inc' K).getD k 0 := by
  unfold swapd
  rw [upd_self, wrt_else _ _ _ _ _ (fun i hi e => by have := place_inj hi' e; omega), copy_step hk hm]
theorem swapd_left {s : Nat → List Nat} {g g' off inc off' inc' K k : Nat} (hk : k < K) (hi : 1 ≤ inc) (hm : g = g' → ∀ i, i < K → ∀ j, j < K → off + i * inc ≠ off' + j * inc') :
    (swapd s g off inc g' off' inc' K k g).getD (off + k * inc) 0 = (lst (s g) off inc K).getD k 0 := by
  unfold swapd
  rw [lst_getD _ _ _ hk]
  by_cases e : g = g'
  · subst e
    rw [upd_self, upd_self, wrt_else _ _ _ _ _ (fun i hi e => hm rfl k hk i (by omega) e), wrt_else _ _ _ _ _ (fun i hi' e => by have := place_inj hi e; omega)]
  · rw [upd_ne e, upd_self, wrt_else _ _ _ _ _ (fun i hi' e => by have := place_inj hi e; omega)]
theorem swapd_step {s : Nat → List Nat} {g g' off inc off' inc' K k : Nat} (hk : k < K) (hi : 1 ≤ inc) (hi' : 1 ≤ inc') (hm : g = g' → ∀ i, i < K → ∀ j, j < K → off + i * inc ≠ off' + j * inc') :
    upd (upd (swapd s g off inc g' off' inc' K k) g ((swapd s g off inc g' off' inc' K k g).set (off + k * inc) ((lst (s g') off' inc' K).getD k 0))) g'
      (((upd (swapd s g off inc g' off' inc' K k) g ((swapd s g off inc g' off' inc' K k g).set (off + k * inc) ((lst (s g') off' inc' K).getD k 0))) g').set (off' + k * inc') ((lst (s g) off inc K).getD k 0))
      = swapd s g off inc g' off' inc' K (k + 1) := by
  by_cases e : g = g'
  · subst e
    unfold swapd
    simp only [upd_self, upd_upd, wrt]
    congr 1
    rw [wrt_set]
    intro i hi2 e
    exact hm rfl k hk i (by omega) e
  · have e' : g' ≠ g := fun h => e h.symm
    unfold swapd
    simp only [upd_ne e, upd_ne e', upd_self]
    rw [wrt, wrt]
    rw [upd_comm _ e', upd_upd, upd_upd]
end Go.Proofs.Ytbeefnekblepfaa
