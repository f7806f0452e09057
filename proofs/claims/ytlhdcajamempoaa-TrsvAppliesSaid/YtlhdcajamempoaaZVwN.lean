/-
ViewMeets. Conditions: the first cell of the list isn't shared with a string.
-/
import Derived.Test.YtlhdcajamempoaaZVwM
set_option linter.unusedVariables false
namespace Go.Proofs.Ytlhdcajamempoaa
open Go.RowKit
attribute [local go_sem ↓] Go.wp_at_zero Go.wp_at_succ

theorem run_sameAddr_far {P : Program} {w : World} {b o g : Nat} {t : TypeId} {cs : Array Value} {v : Value} (hne : b ≠ g) (hc : w.cell? ⟨b, o, none⟩ = some v) (hf : w.frozen? ⟨b, o, none⟩ = false) (hB : Blk w g t cs) (hs : 0 < cs.size) :
    (sameAddr ⟨b, o, none⟩ ⟨g, 0, none⟩).run P w = .ok false w := by
  obtain ⟨ca, ta, fr, ha, m, hm⟩ : ∃ ca ta fr, w.heap[b]? = some (.cells ca ta fr) ∧ ∃ m, ca.size = m + 1 := by
    unfold World.cell? at hc
    simp only at hc
    split at hc
    · rename_i ca ta fr h
      refine ⟨ca, ta, fr, h, ca.size - 1, ?_⟩
      have h1 := (Array.getElem?_eq_some_iff.1 hc).1
      omega
    · cases hc
  have hg := hB
  unfold Blk at hg
  have hs0 : cs.size ≠ 0 := by omega
  obtain ⟨lo, hi⟩ := fr
  have hf' : (decide (lo ≤ o) && decide (o < hi)) = false := by
    simpa [World.frozen?, ha] using hf
  have hg2 : g ≠ b := fun e => hne e.symm
  cases h1 : decide (lo ≤ m + 1) && decide (m + 1 < hi)
  all_goals simp [sameAddr, hne, World.frozen?, ha, hg, hf', noView, viewAt, World.shape?, mayBeOne, stringish, hs0, h1, hm]
theorem run_eql_far {W : World} {b o g : Nat} {t : TypeId} {cs : Array Value} {v : Value} (hne : b ≠ g) (hc : W.cell? ⟨b, o, none⟩ = some v) (hf : W.frozen? ⟨b, o, none⟩ = false) (hB : Blk W g t cs) (hs : 0 < cs.size) :
    (binOp .eql 118 (.pointer (some ⟨b, o, none⟩)) (.pointer (some ⟨g, 0, none⟩))).run Try.prog W = .ok (.bool false) W := by
  have hz : (Try.prog.info? 28).map (fun i => i.size) = some 1 := by kernel_rfl
  obtain ⟨j, hj, hsz⟩ := Option.map_eq_some_iff.1 hz
  have h0 := run_sameAddr_far (P := Try.prog) hne hc hf hB hs
  have h : ∀ d : Nat, (Op.equalIn (d + 1) 118 (.pointer (some ⟨b, o, none⟩)) (.pointer (some ⟨g, 0, none⟩))).run Try.prog W = .ok false W := fun d => by
    simp [Op.equalIn, run_underlying Try.underlying118, sizeOf, typeInfo, hj, hsz, h0]
  simp only [binOp]
  simp [Op.equal, Op.maxDepth, h 9999]

theorem both_pos {n n' : Nat} {off r k ld off' r' k' ld' : Int} (h : bothB n off r k ld n' off' r' k' ld' = true) : 0 < n := by
  unfold bothB at h
  simp only [Bool.and_eq_true, Bool.not_eq_true', Bool.or_eq_false_iff, beq_eq_false_iff_ne, ne_eq] at h
  have g1 := of_decide_eq_true h.1.1.1
  have h0 : 0 ≤ (k - 1) * ld := Int.mul_nonneg (by omega) (by omega)
  omega

theorem meet_apart (A : Option Addr) (c : Nat) (l : List Nat) (off r k ld : Int) (g cN : Nat) (off' r' k' ld' : Int) (w : World) (hA : Row w A (f64s l)) (hfz : ∀ b o, A = some ⟨b, o, none⟩ → l ≠ [] → w.frozen? ⟨b, o, none⟩ = false) (hO : Own w g l) (hne : ∀ b o, A = some ⟨b, o, none⟩ → l ≠ [] → b ≠ g)
    (hn : l.length < 9223372036854775808) (ho : I64 off) (hr : I64 r) (hk : I64 k) (hi : I64 ld) (ho' : I64 off') (hr' : I64 r') (hk' : I64 k') (hi' : I64 ld') :
    Calls Try.prog 82 #[mat A l.length c off r k ld, mat (some ⟨g, 0, none⟩) l.length cN off' r' k' ld'] w fun e w' => e = .returned (.bool false) ∧ Below w.heap.size w w' := by
  cases hb : bothB l.length off r k ld l.length off' r' k' ld'
  · exact meet_none A _ c off r k ld _ _ cN off' r' k' ld' w hn ho hr hk hi hn ho' hr' hk' hi' hb
  · have h0 : 0 < l.length := both_pos hb
    have hl : l ≠ [] := by rintro rfl; simp at h0
    obtain ⟨b, o, rfl, hbl, hcell⟩ := hA.at_ (f64s_get l 0 h0)
    have hfr := hfz b o rfl hl
    have hbg := hne b o rfl hl
    refine meet_far b o _ c off r k ld g 0 _ cN off' r' k' ld' w hn ho hr hk hi hn ho' hr' hk' hi' hb h0 h0 fun W hW => ?_
    obtain ⟨cs, hB, ht⟩ := hO.nxt hW
    refine run_eql_far hbg (cell_below hcell hW) ((hW.frozen (p := ⟨b, o, none⟩) hbl).trans hfr) hB ?_
    have h1 : (cs.toList.take l.length).length = l.length := by rw [ht]; simp [f64s]
    rw [List.length_take] at h1
    simp at h1; omega

/-- What the law expects. -/
def wantB (n : Nat) (off r k ld off' r' k' ld' : Int) : Bool := bothB n off r k ld n off' r' k' ld' && (decide (off ≤ lastI off' r' k' ld') && decide (off' ≤ lastI off r k ld))
theorem meet_one (A : Option Addr) (c : Nat) (l : List Nat) (off r k ld off' r' k' ld' : Int) (w : World) (hA : Row w A (f64s l))
    (hn : l.length < 9223372036854775808) (ho : I64 off) (hr : I64 r) (hk : I64 k) (hi : I64 ld) (ho' : I64 off') (hr' : I64 r') (hk' : I64 k') (hi' : I64 ld') :
    Calls Try.prog 82 #[mat A l.length c off r k ld, mat A l.length c off' r' k' ld'] w fun e w' => e = .returned (.bool (wantB l.length off r k ld off' r' k' ld')) ∧ Below w.heap.size w w' := by
  unfold wantB
  cases hb : bothB l.length off r k ld l.length off' r' k' ld'
  · exact meet_none A _ c off r k ld A _ c off' r' k' ld' w hn ho hr hk hi hn ho' hr' hk' hi' hb
  · have h0 : 0 < l.length := both_pos hb
    obtain ⟨b, o, rfl, hbl, hcell⟩ := hA.at_ (f64s_get l 0 h0)
    rw [Bool.true_and]
    exact meet_same b o _ c off r k ld _ c off' r' k' ld' w hn ho hr hk hi hn ho' hr' hk' hi' hb h0 h0
theorem both_comm (n : Nat) (off r k ld : Int) (off' r' k' ld' : Int) : bothB n off r k ld n off' r' k' ld' = bothB n off' r' k' ld' n off r k ld := by
  unfold bothB
  cases matB n off r k ld <;> cases matB n off' r' k' ld' <;> cases (r == 0 || k == 0) <;> cases (r' == 0 || k' == 0) <;> rfl
theorem want_comm (n : Nat) (off r k ld off' r' k' ld' : Int) : wantB n off r k ld off' r' k' ld' = wantB n off' r' k' ld' off r k ld := by
  unfold wantB
  rw [both_comm, Bool.and_comm (decide (off ≤ _))]

theorem both_why {n : Nat} {off r k ld off' r' k' ld' : Int} (h : bothB n off r k ld n off' r' k' ld' = false) :
    matB n off r k ld = false ∨ matB n off r k ld = true ∧ (matB n off' r' k' ld' = false ∨ matB n off' r' k' ld' = true ∧ (r ≤ 0 ∨ 0 < r ∧ (k ≤ 0 ∨ 0 < k ∧ (r' ≤ 0 ∨ 0 < r' ∧ k' ≤ 0)))) := by
  unfold bothB at h
  cases h1 : matB n off r k ld
  · exact .inl rfl
  cases h2 : matB n off' r' k' ld'
  · exact .inr ⟨rfl, .inl rfl⟩
  refine .inr ⟨rfl, .inr ⟨rfl, ?_⟩⟩
  have g1 := of_decide_eq_true h1
  have g2 := of_decide_eq_true h2
  rw [h1, h2] at h
  simp at h
  omega

end Go.Proofs.Ytlhdcajamempoaa
