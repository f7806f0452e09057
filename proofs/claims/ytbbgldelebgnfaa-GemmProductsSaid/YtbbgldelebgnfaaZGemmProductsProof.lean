/-
'GemmProducts' returns true for every input. Conditions: none.
-/
import Derived.Test.YtbbgldelebgnfaaRows
import Derived.WalkKit
import Derived.ProofKit
import Derived.OpenShut
import Derived.Laws.Cover2
import Derived.Test.YtbbgldelebgnfaaUaaa
import Derived.Test.YtbbgldelebgnfaaUaad
import Derived.Test.YtbbgldelebgnfaaZOpM

import Derived.Test.YtbbgldelebgnfaaZGfI
set_option linter.unusedVariables false
namespace Go.Proofs.Ytbbgldelebgnfaa.lawGemmProducts
open Go.ChangeShapes Go.WideShapes Go.ChangeAt Go.RowKit
open Go.ChangeMaps (open_string shut_string)

theorem own : ownKnob Try.prog.godebug = none := by kernel_rfl
theorem fine : Fine Try.prog [23, 22, 3, 25, 39] := by
  unfold Fine
  kernel_rfl

set_option maxRecDepth 100000 in
theorem lifted (os : Os) (started : os.Started) (H : Type) (enc : TypeId × Value → H) :
    ReturnsInHanded {} Try.checked os 4 .any (Rows.gemmProductsSpec.pre6 enc Try.prog Try.f4 Rows.gemmProductsRow.domain false) (Rows.gemmProductsSpec.post enc Try.prog Try.f4 false true false false) := by
  refine returnsInHanded_of_change (C := Try.checked) own started (by kernel_rfl) Try.func4
    (ChangeSpec.witness6 (enc := enc) (C := Try.checked) false ⟨#[], #[.slice none 0 0], []⟩ 8 (by kernel_rfl) (by kernel_rfl) (by kernel_rfl) (by kernel_rfl)) ?_
  intro W base args ds gs before hval0 hW hcnd _
  have hval : ∀ (j : Nat) t v, Try.f4.params[j]? = some t → args[j]? = some v → Value.okWide Try.prog W .any base t v := hval0
  have hW' := hW
  obtain ⟨p, q, hA0, hV, rfl, hfz, hnd⟩ := hW
  have hA : DataW.TrodAll enc Try.prog W 0 (fun _ => true) true Try.f4.params.toList args.toList ds p := hA0
  rw [Try.params4] at hA hval
  obtain ⟨v0, vs0, d0, ds0, p0, q0, hargs, rfl, rfl, h0, r0⟩ := trodAll_cons hA
  obtain ⟨rfl, rfl, rfl⟩ := trodAll_nil r0
  obtain rfl : args = #[v0] := by cases args; simp_all
  obtain ⟨rfl, rfl⟩ := trodVars_none hV
  obtain ⟨A0, c0, l0, rfl, hc0, hm0, hr0, hraw0⟩ := open_mats Try.underlying39 (by kernel_rfl) Try.underlying25 (by kernel_rfl) Try.underlying23 (by kernel_rfl) Try.underlying22 Try.underlying3 Try.underlying3 Try.underlying3 Try.underlying3 (hval 0 39 v0 rfl rfl) h0
  have hok0 : ∀ x ∈ l0, x.Ok W := fun x hx => (hraw0 x hx).ok fun b o hp => hfz b o (List.mem_append_left _ (List.mem_append_left _ hp))
  refine (gemmProducts_walk A0 c0 l0 W hr0 hc0 hok0).mono fun e W' ⟨he, hg⟩ => ?_
  subst he
  refine ⟨_, rfl, post_again (L := [23, 22, 3, 25, 39]) fine hW' rfl (by rw [Try.params4]; decide) (fun _ _ _ => (trodAll_cons_mk (shut_bool Try.underlying4 _) trodAll_mk0)) rfl rfl hg (ok_one (by kernel_rfl) rfl (okWide_bool_mk Try.underlying4 _))⟩

/-- The statement. -/
theorem proved : Rows.GemmProductsSaid :=
  OpenClaim.holds_of_wide 4 Try.f4 rfl rfl rfl rfl rfl rfl rfl ⟨rfl, rfl, rfl, rfl, rfl⟩ rfl rfl rfl rfl rfl (by kernel_rfl) Try.func4 (by kernel_rfl)
    (of_decide_eq_true (by kernel_rfl)) (by unfold Func.isWrapper; first | (rw [if_pos (by decide +kernel)]; kernel_rfl) | (rw [if_neg (by decide +kernel)]; exact ⟨rfl, rfl⟩))
    (fun os started H enc _ => lifted os started H enc)
#print axioms proved
end Go.Proofs.Ytbbgldelebgnfaa.lawGemmProducts
