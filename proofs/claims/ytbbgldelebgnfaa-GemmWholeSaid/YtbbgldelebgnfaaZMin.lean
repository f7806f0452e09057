/-
Into by the program: a matrix' numbers, written into another one. Conditions: the matrix that is written has a list of the call's own; its list and the other's have at most 2^20 numbers.
-/
import Derived.Test.YtbbgldelebgnfaaZCl
set_option linter.unusedVariables false
set_option linter.unusedSimpArgs false
set_option linter.unnecessarySimpa false
namespace Go.Proofs.Ytbbgldelebgnfaa
open Go.RowKit
attribute [local go_sem ↓] Go.wp_at_zero Go.wp_at_succ

theorem run_sameAddr_near {P : Program} {w : World} {b o g : Nat} {t : TypeId} {cs : Array Value} {v : Value} (hne : b ≠ g) (hc : w.cell? ⟨b, o, none⟩ = some v) (hf : w.frozen? ⟨b, o, none⟩ = false) (hB : Blk w g t cs) (hs : 0 < cs.size) :
    (sameAddr ⟨g, 0, none⟩ ⟨b, o, none⟩).run P w = .ok false w := by
  obtain ⟨ca, ta, fr, ha, m, hm⟩ : ∃ ca ta fr, w.heap[b]? = some (.cells ca ta fr) ∧ ∃ m, ca.size = m + 1 := by
    unfold World.cell? at hc
    simp only at hc
    split at hc
    · rename_i ca ta fr h
      refine ⟨ca, ta, fr, h, ca.size - 1, ?_⟩
      have h1 := (Array.getElem?_eq_some_iff.1 hc).1
      omega
    · cases hc
  have hg := hB
  unfold Blk at hg
  have hs0 : cs.size ≠ 0 := by omega
  obtain ⟨lo, hi⟩ := fr
  have hf' : (decide (lo ≤ o) && decide (o < hi)) = false := by
    simpa [World.frozen?, ha] using hf
  have hg2 : g ≠ b := fun e => hne e.symm
  cases h1 : decide (lo ≤ m + 1) && decide (m + 1 < hi)
  all_goals simp [sameAddr, hg2, World.frozen?, ha, hg, hf', noView, viewAt, World.shape?, mayBeOne, stringish, hs0, h1, hm]
theorem run_eql_near {W : World} {b o g : Nat} {t : TypeId} {cs : Array Value} {v : Value} (hne : b ≠ g) (hc : W.cell? ⟨b, o, none⟩ = some v) (hf : W.frozen? ⟨b, o, none⟩ = false) (hB : Blk W g t cs) (hs : 0 < cs.size) :
    (binOp .eql 80 (.pointer (some ⟨g, 0, none⟩)) (.pointer (some ⟨b, o, none⟩))).run Try.prog W = .ok (.bool false) W := by
  have hz : (Try.prog.info? 22).map (fun i => i.size) = some 1 := by kernel_rfl
  obtain ⟨j, hj, hsz⟩ := Option.map_eq_some_iff.1 hz
  have h0 := run_sameAddr_near (P := Try.prog) hne hc hf hB hs
  have h : ∀ d : Nat, (Op.equalIn (d + 1) 80 (.pointer (some ⟨g, 0, none⟩)) (.pointer (some ⟨b, o, none⟩))).run Try.prog W = .ok false W := fun d => by
    simp [Op.equalIn, run_underlying Try.underlying80, sizeOf, typeInfo, hj, hsz, h0]
  simp only [binOp]
  simp [Op.equal, Op.maxDepth, h 9999]
theorem both_pos2 {n n' : Nat} {off r k ld off' r' k' ld' : Int} (h : bothB n off r k ld n' off' r' k' ld' = true) : 0 < n ∧ 0 < n' := by
  unfold bothB at h
  simp only [Bool.and_eq_true, Bool.not_eq_true', Bool.or_eq_false_iff, beq_eq_false_iff_ne, ne_eq] at h
  have g1 := of_decide_eq_true h.1.1.1
  have g2 := of_decide_eq_true h.1.1.2
  have h0 : 0 ≤ (k - 1) * ld := Int.mul_nonneg (by omega) (by omega)
  have h1 : 0 ≤ (k' - 1) * ld' := Int.mul_nonneg (by omega) (by omega)
  omega
/-- A matrix in a list of the call's own never meets one of the caller's. -/
theorem meet_mine (g cN : Nat) (l : List Nat) (n : Nat) (off r k ld : Int) (A : Option Addr) (n' c' : Nat) (l' : List Nat) (off' r' k' ld' : Int) (w : World) (hO : Own w g l) (hl : l.length = n) (hA : Row w A (f64s l')) (hl' : l'.length = n') (hfz : ∀ b o, A = some ⟨b, o, none⟩ → l' ≠ [] → w.frozen? ⟨b, o, none⟩ = false) (hne : ∀ b o, A = some ⟨b, o, none⟩ → l' ≠ [] → b ≠ g)
    (hn : n < 9223372036854775808) (hn' : n' < 9223372036854775808) (ho : I64 off) (hr : I64 r) (hk : I64 k) (hi : I64 ld) (ho' : I64 off') (hr' : I64 r') (hk' : I64 k') (hi' : I64 ld') :
    Calls Try.prog 40 #[mat (some ⟨g, 0, none⟩) n cN off r k ld, mat A n' c' off' r' k' ld'] w fun e w' => e = .returned (.bool false) ∧ Below w.heap.size w w' := by
  cases hb : bothB n off r k ld n' off' r' k' ld'
  · exact meet_none _ _ cN off r k ld _ _ c' off' r' k' ld' w hn ho hr hk hi hn' ho' hr' hk' hi' hb
  · have h0 := both_pos2 hb
    have hl2 : l' ≠ [] := by rintro rfl; simp at hl'; omega
    obtain ⟨b, o, rfl, hbl, hcell⟩ := hA.at_ (f64s_get l' 0 (by omega))
    have hfr := hfz b o rfl hl2
    have hbg := hne b o rfl hl2
    refine meet_far g 0 _ cN off r k ld b o _ c' off' r' k' ld' w hn ho hr hk hi hn' ho' hr' hk' hi' hb h0.1 h0.2 fun W hW => ?_
    obtain ⟨cs, hB, ht⟩ := hO.nxt hW
    refine run_eql_near hbg (cell_below hcell hW) ((hW.frozen (p := ⟨b, o, none⟩) hbl).trans hfr) hB ?_
    have h1 : (cs.toList.take l.length).length = l.length := by rw [ht]; simp [f64s]
    rw [List.length_take] at h1
    simp at h1; omega

/-- Why nothing is written. -/
def intoI (n : Nat) (off r k ld : Int) (n' : Nat) (off' r' k' ld' : Int) : Int := if (matB n off r k ld && matB n' off' r' k' ld') = true then (if r = r' ∧ k = k' then 0 else 3) else 1
end Go.Proofs.Ytbbgldelebgnfaa
