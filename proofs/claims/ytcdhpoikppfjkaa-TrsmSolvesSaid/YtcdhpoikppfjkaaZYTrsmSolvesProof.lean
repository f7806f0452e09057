/-
'TrsmSolves' returns true for every input. Conditions: none.
-/
import Derived.Test.YtcdhpoikppfjkaaRows
import Derived.WalkKit
import Derived.ProofKit
import Derived.OpenShut
import Derived.Laws.Cover2
import Derived.Test.YtcdhpoikppfjkaaWaaa
import Derived.Test.YtcdhpoikppfjkaaWaac

import Derived.Test.YtcdhpoikppfjkaaZYTsQ
set_option linter.unusedVariables false
namespace Go.Proofs.Ytcdhpoikppfjkaa.lawTrsmSolves
open Go.ChangeShapes Go.WideShapes Go.ChangeAt Go.RowKit
open Go.ChangeMaps (open_string shut_string)

theorem own : ownKnob Try.prog.godebug = none := by kernel_rfl
theorem fine : Fine Try.prog [22, 43, 3, 24, 4] := by
  unfold Fine
  kernel_rfl

set_option maxRecDepth 100000 in
theorem lifted (os : Os) (started : os.Started) (H : Type) (enc : TypeId × Value → H) :
    ReturnsInHanded {} Try.checked os 3 .any (Rows.trsmSolvesSpec.pre6 enc Try.prog Try.f3 Rows.trsmSolvesRow.domain false) (Rows.trsmSolvesSpec.post enc Try.prog Try.f3 false true false false) := by
  refine returnsInHanded_of_change (C := Try.checked) own started (by kernel_rfl) Try.func3
    (ChangeSpec.witness6 (enc := enc) (C := Try.checked) false ⟨#[], #[.int .i64 0, .int .i64 0, .agg #[.slice none 0 0, .int .i64 0, .int .i64 0, .int .i64 0, .int .i64 0], .agg #[.slice none 0 0, .int .i64 0, .int .i64 0, .int .i64 0, .int .i64 0], .bool false], []⟩ 8 (by kernel_rfl) (by kernel_rfl) (by kernel_rfl) (by kernel_rfl)) ?_
  intro W base args ds gs before hval0 hW hcnd _
  have hval : ∀ (j : Nat) t v, Try.f3.params[j]? = some t → args[j]? = some v → Value.okWide Try.prog W .any base t v := hval0
  have hW' := hW
  obtain ⟨p, q, hA0, hV, rfl, hfz, hnd⟩ := hW
  have hA : DataW.TrodAll enc Try.prog W 0 (fun _ => true) true Try.f3.params.toList args.toList ds p := hA0
  rw [Try.params3] at hA hval
  obtain ⟨v0, vs0, d0, ds0, p0, q0, hargs, rfl, rfl, h0, r0⟩ := trodAll_cons hA
  obtain ⟨v1, vs1, d1, ds1, p1, q1, rfl, rfl, rfl, h1, r1⟩ := trodAll_cons r0
  obtain ⟨v2, vs2, d2, ds2, p2, q2, rfl, rfl, rfl, h2, r2⟩ := trodAll_cons r1
  obtain ⟨v3, vs3, d3, ds3, p3, q3, rfl, rfl, rfl, h3, r3⟩ := trodAll_cons r2
  obtain ⟨v4, vs4, d4, ds4, p4, q4, rfl, rfl, rfl, h4, r4⟩ := trodAll_cons r3
  obtain ⟨rfl, rfl, rfl⟩ := trodAll_nil r4
  obtain rfl : args = #[v0, v1, v2, v3, v4] := by cases args; simp_all
  obtain ⟨rfl, rfl⟩ := trodVars_none hV
  obtain ⟨z0, rfl, hz0⟩ := open_i64 Try.underlying3 (hval 0 3 v0 rfl rfl) h0
  obtain ⟨z1, rfl, hz1⟩ := open_i64 Try.underlying3 (hval 1 3 v1 rfl rfl) h1
  obtain ⟨A2, c2, l2, off2, rr2, k2, ld2, rfl, hc2, hm2, hw2, hr2, ho2, hrr2, hk2, hi2⟩ := open_mat Try.underlying24 (by kernel_rfl) (by kernel_rfl) Try.underlying22 (by kernel_rfl) Try.underlying43 Try.underlying3 Try.underlying3 Try.underlying3 Try.underlying3 (hval 2 24 v2 rfl rfl) h2
  obtain ⟨A3, c3, l3, off3, rr3, k3, ld3, rfl, hc3, hm3, hw3, hr3, ho3, hrr3, hk3, hi3⟩ := open_mat Try.underlying24 (by kernel_rfl) (by kernel_rfl) Try.underlying22 (by kernel_rfl) Try.underlying43 Try.underlying3 Try.underlying3 Try.underlying3 Try.underlying3 (hval 3 24 v3 rfl rfl) h3
  obtain ⟨b4, rfl, rfl, rfl⟩ := open_bool Try.underlying4 (hval 4 4 v4 rfl rfl) h4
  refine (tsm_walk z0 z1 A2 c2 l2 off2 rr2 k2 ld2 A3 c3 l3 off3 rr3 k3 ld3 b4 W hz1 hr2 hw2 ho2 hrr2 hk2 hi2 hr3 hw3 ho3 hrr3 hk3 hi3).mono fun e W' ⟨he, hg⟩ => ?_
  subst he
  refine ⟨_, rfl, post_again (L := [22, 43, 3, 24, 4]) fine hW' rfl (by rw [Try.params3]; decide) (fun _ _ _ => (trodAll_cons_mk (shut_bool Try.underlying4 _) trodAll_mk0)) rfl rfl hg (ok_one (by kernel_rfl) rfl (okWide_bool_mk Try.underlying4 _))⟩

/-- The statement. -/
theorem proved : Rows.TrsmSolvesSaid :=
  OpenClaim.holds_of_wide 3 Try.f3 rfl rfl rfl rfl rfl rfl rfl ⟨rfl, rfl, rfl, rfl, rfl⟩ rfl rfl rfl rfl rfl (by kernel_rfl) Try.func3 (by kernel_rfl)
    (of_decide_eq_true (by kernel_rfl)) (by unfold Func.isWrapper; first | (rw [if_pos (by decide +kernel)]; kernel_rfl) | (rw [if_neg (by decide +kernel)]; exact ⟨rfl, rfl⟩))
    (fun os started H enc _ => lifted os started H enc)
#print axioms proved
end Go.Proofs.Ytcdhpoikppfjkaa.lawTrsmSolves
