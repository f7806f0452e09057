/-
'GemvClose' returns true for every input. Conditions: none.
-/
import Derived.Test.YtodoibioedelgaaRows
import Derived.WalkKit
import Derived.ProofKit
import Derived.OpenShut
import Derived.Laws.Cover2
import Derived.Test.YtodoibioedelgaaGa
import Derived.Test.YtodoibioedelgaaGd
import Derived.Test.YtodoibioedelgaaGba
import Derived.Test.YtodoibioedelgaaGbt
set_option linter.unusedVariables false
namespace Go.Proofs.Ytodoibioedelgaa.lawGemvClose
open Go.ChangeShapes Go.WideShapes Go.ChangeAt Go.RowKit
open Go.ChangeMaps (open_string shut_string)

theorem own : ownKnob Try.prog.godebug = none := by kernel_rfl
theorem fine : Fine Try.prog [23, 22, 3, 5] := by
  unfold Fine
  kernel_rfl

set_option maxRecDepth 100000 in
theorem lifted (os : Os) (started : os.Started) (H : Type) (enc : TypeId × Value → H) :
    ReturnsInHanded {} Try.checked os 4 .any (Rows.gemvCloseSpec.pre6 enc Try.prog Try.f4 Rows.gemvCloseRow.domain false) (Rows.gemvCloseSpec.post enc Try.prog Try.f4 false true false false) := by
  refine returnsInHanded_of_change (C := Try.checked) own started (by kernel_rfl) Try.func4
    (ChangeSpec.witness6 (enc := enc) (C := Try.checked) false ⟨#[], #[.slice none 0 0, .slice none 0 0, .slice none 0 0, .int .u8 0], []⟩ 8 (by kernel_rfl) (by kernel_rfl) (by kernel_rfl) (by kernel_rfl)) ?_
  intro W base args ds gs before hval0 hW hcnd _
  have hval : ∀ (j : Nat) t v, Try.f4.params[j]? = some t → args[j]? = some v → Value.okWide Try.prog W .any base t v := hval0
  have hW' := hW
  obtain ⟨p, q, hA0, hV, rfl, hfz, hnd⟩ := hW
  have hA : DataW.TrodAll enc Try.prog W 0 (fun _ => true) true Try.f4.params.toList args.toList ds p := hA0
  rw [Try.params4] at hA hval
  obtain ⟨v0, vs0, d0, ds0, p0, q0, hargs, rfl, rfl, h0, r0⟩ := trodAll_cons hA
  obtain ⟨v1, vs1, d1, ds1, p1, q1, rfl, rfl, rfl, h1, r1⟩ := trodAll_cons r0
  obtain ⟨v2, vs2, d2, ds2, p2, q2, rfl, rfl, rfl, h2, r2⟩ := trodAll_cons r1
  obtain ⟨v3, vs3, d3, ds3, p3, q3, rfl, rfl, rfl, h3, r3⟩ := trodAll_cons r2
  obtain ⟨rfl, rfl, rfl⟩ := trodAll_nil r3
  obtain rfl : args = #[v0, v1, v2, v3] := by cases args; simp_all
  obtain ⟨rfl, rfl⟩ := trodVars_none hV
  obtain ⟨A0, c0, l0, rfl, hc0, hm0, hw0, hr0⟩ := open_flos Try.underlying23 (by kernel_rfl) Try.underlying22 (hval 0 23 v0 rfl rfl) h0
  obtain ⟨A1, c1, l1, rfl, hc1, hm1, hw1, hr1⟩ := open_flos Try.underlying23 (by kernel_rfl) Try.underlying22 (hval 1 23 v1 rfl rfl) h1
  obtain ⟨A2, c2, l2, rfl, hc2, hm2, hw2, hr2⟩ := open_flos Try.underlying23 (by kernel_rfl) Try.underlying22 (hval 2 23 v2 rfl rfl) h2
  obtain ⟨bb3, rfl, hbb3⟩ := open_u8 Try.underlying5 (hval 3 5 v3 rfl rfl) h3
  have hfz1 : ∀ b o, A1 = some ⟨b, o, none⟩ → l1 ≠ [] → W.frozen? ⟨b, o, none⟩ = false := by
    intro b o e hne
    subst e
    exact hfz b o (List.mem_append_left _ (List.mem_append_right _ (List.mem_append_left _ (flo_placeT Try.underlying23 (by kernel_rfl) h1 (List.length_pos_iff.2 hne)))))
  refine (gemvClose_walk A0 c0 l0 A1 c1 l1 A2 c2 l2 bb3 W hr0 hr1 hr2 hw0 hw1 hw2 hbb3 hfz1).mono fun e W' ⟨he, hg⟩ => ?_
  subst he
  refine ⟨_, rfl, post_again (L := [23, 22, 3, 5]) fine hW' rfl (by rw [Try.params4]; decide) (fun _ _ _ => (trodAll_cons_mk (shut_bool Try.underlying4 _) trodAll_mk0)) rfl rfl hg (ok_one (by kernel_rfl) rfl (okWide_bool_mk Try.underlying4 _))⟩

/-- The statement. -/
theorem proved : Rows.GemvCloseSaid :=
  OpenClaim.holds_of_wide 4 Try.f4 rfl rfl rfl rfl rfl rfl rfl ⟨rfl, rfl, rfl, rfl, rfl⟩ rfl rfl rfl rfl rfl (by kernel_rfl) Try.func4 (by kernel_rfl)
    (of_decide_eq_true (by kernel_rfl)) (by unfold Func.isWrapper; first | (rw [if_pos (by decide +kernel)]; kernel_rfl) | (rw [if_neg (by decide +kernel)]; exact ⟨rfl, rfl⟩))
    (fun os started H enc _ => lifted os started H enc)
#print axioms proved
end Go.Proofs.Ytodoibioedelgaa.lawGemvClose
