/-
A whole number of one word in decimal digits: text. Conditions: the number is within 10^19; the library's tables are as its text lays them.
-/
import Derived.Test.YtbkbeglmfhaleaaGreatDoorDiv
import Derived.LoopN
import Derived.Maps.AppendAt
set_option linter.unusedVariables false
namespace Go.Proofs.YtbkbeglmfhaleaaGreatDoor
open Go.RowKit
attribute [local go_sem ↓] Go.wp_at_zero Go.wp_at_succ

theorem info_str : (Tryz.prog.info? 9).map (fun i => (i.zero, i.size, i.bytes)) = some (some (.string ⟨#[]⟩), 1, 16) := by kernel_rfl
theorem size_u64 : ∀ w, (Go.sizeOf 58).run Tryz.prog w = .ok 1 w := fun w => Tryz.sizeOf58 w
/-- A copy of one word. -/
theorem clone_one (b o : Nat) (c x : Nat) (w : World) (hc : w.cell? ⟨b, o, none⟩ = some (.int .u64 (x : Int))) :
    Calls Tryz.prog 72 #[.slice (some ⟨b, o, none⟩) 1 c] w fun e w' =>
      ∃ g cap rest, e = .returned (.slice (some ⟨g, 0, none⟩) 1 cap) ∧ Blk w' g 58 (.int .u64 (x : Int) :: rest).toArray ∧ w.heap.size ≤ g ∧ 1 ≤ cap ∧ cap ≤ 9223372036854775807 ∧ Below w.heap.size w w' := by
  obtain ⟨i0, hi, hz0, hz1, hz2⟩ := info_parts info_u64
  refine (Tryz.slices_Clone i0 _ 1 8 hi hz0 hz1 hz2 rfl (by omega) size_u64 b o 1 c [.int .u64 (x : Int)] w rfl (by unfold maxLen; omega) (by omega) (by
    intro j u hj
    match j, hj with
    | 0, hj => simp at hj; subst hj; simpa using hc) (by intro u hu; simp at hu; subst hu; rfl)).mono ?_
  rintro e w' ⟨v', rfl, hown, hne, hb⟩
  rcases hown.2 with ⟨h0, _⟩ | ⟨g, cap, cur, rfl, hg, hh, hnc, hcm, hcs, htake⟩
  · exact absurd h0 hne
  · have hl : 1 ≤ cur.toList.length := by simp; omega
    obtain ⟨rest, hr⟩ : ∃ rest, cur.toList = .int .u64 (x : Int) :: rest := by
      cases hcl : cur.toList with
      | nil => rw [hcl] at hl; simp at hl
      | cons a l =>
        rw [hcl] at htake
        simp at htake
        exact ⟨l, by rw [htake]⟩
    refine ⟨g, cap, rest, rfl, ?_, hg, hnc, hcm, hb⟩
    unfold Blk
    rw [← hr]
    exact hh
end Go.Proofs.YtbkbeglmfhaleaaGreatDoor
