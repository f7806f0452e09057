/-
math/bits.Div64 where the high word is 0. Conditions: the divisor isn't 0.
-/
import Derived.Test.YtajcjpbfmpljkaaDoorZFmt
import Derived.LoopN
import Derived.Maps.AppendAt
set_option linter.unusedVariables false
namespace Go.Proofs.YtajcjpbfmpljkaaDoor
open Go.RowKit

set_option maxHeartbeats 1000000 in
set_option maxRecDepth 100000 in
theorem div_any (x : Nat) (w : World) (hx : x < 10000000000000000000) :
    Calls Tryd.prog 38 #[.int .u64 0, .int .u64 x, .int .u64 10000000000000000000] w fun e w' => e = .returned (.tuple #[.int .u64 0, .int .u64 x]) ∧ Below w.heap.size w w' := by
  have h1 : (x : Int) / 10000000000000000000 = 0 := Int.ediv_eq_zero_of_lt (by omega) (by omega)
  have h2 : (x : Int) % 10000000000000000000 = (x : Int) := Int.emod_eq_of_lt (by omega) (by omega)
  have H2 := Lib.hid h2
  clear h2
  go_enter Tryd.func38, Tryd.ntmps38
  go_wp2_with fail
  go_quiet (fail)
  rw [H2.out]
  clear h1 H2
  go_wp2_with fail
  go_ret2
  exact ⟨rfl, below_drewN (Below.refl _ _) _⟩
end Go.Proofs.YtajcjpbfmpljkaaDoor
/-
A whole number of one word in decimal digits: text. Conditions: the number is within 10^19; the library's tables are as its text lays them.
-/
set_option linter.unusedVariables false
namespace Go.Proofs.YtajcjpbfmpljkaaDoor
open Go.RowKit
attribute [local go_sem ↓] Go.wp_at_zero Go.wp_at_succ

theorem info_str : (Tryd.prog.info? 9).map (fun i => (i.zero, i.size, i.bytes)) = some (some (.string ⟨#[]⟩), 1, 16) := by kernel_rfl
theorem size_u64 : ∀ w, (Go.sizeOf 51).run Tryd.prog w = .ok 1 w := fun w => Tryd.sizeOf51 w
/-- A copy of one word. -/
theorem clone_one (b o : Nat) (c x : Nat) (w : World) (hc : w.cell? ⟨b, o, none⟩ = some (.int .u64 (x : Int))) :
    Calls Tryd.prog 37 #[.slice (some ⟨b, o, none⟩) 1 c] w fun e w' =>
      ∃ g cap rest, e = .returned (.slice (some ⟨g, 0, none⟩) 1 cap) ∧ Blk w' g 51 (.int .u64 (x : Int) :: rest).toArray ∧ w.heap.size ≤ g ∧ 1 ≤ cap ∧ cap ≤ 9223372036854775807 ∧ Below w.heap.size w w' := by
  obtain ⟨i0, hi, hz0, hz1, hz2⟩ := info_parts info_u64
  refine (Tryd.slices_Clone i0 _ 1 8 hi hz0 hz1 hz2 rfl (by omega) size_u64 b o 1 c [.int .u64 (x : Int)] w rfl (by unfold maxLen; omega) (by omega) (by
    intro j u hj
    match j, hj with
    | 0, hj => simp at hj; subst hj; simpa using hc) (by intro u hu; simp at hu; subst hu; rfl)).mono ?_
  rintro e w' ⟨v', rfl, hown, hne, hb⟩
  rcases hown.2 with ⟨h0, _⟩ | ⟨g, cap, cur, rfl, hg, hh, hnc, hcm, hcs, htake⟩
  · exact absurd h0 hne
  · have hl : 1 ≤ cur.toList.length := by simp; omega
    obtain ⟨rest, hr⟩ : ∃ rest, cur.toList = .int .u64 (x : Int) :: rest := by
      cases hcl : cur.toList with
      | nil => rw [hcl] at hl; simp at hl
      | cons a l =>
        rw [hcl] at htake
        simp at htake
        exact ⟨l, by rw [htake]⟩
    refine ⟨g, cap, rest, rfl, ?_, hg, hnc, hcm, hb⟩
    unfold Blk
    rw [← hr]
    exact hh
end Go.Proofs.YtajcjpbfmpljkaaDoor
