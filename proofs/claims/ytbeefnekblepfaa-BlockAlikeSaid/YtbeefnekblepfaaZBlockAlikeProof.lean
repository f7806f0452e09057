/-
'BlockAlike' returns true for every input. Conditions: none.
-/
import Derived.Test.YtbeefnekblepfaaRows
import Derived.WalkKit
import Derived.ProofKit
import Derived.OpenShut
import Derived.Laws.Cover2
import Derived.Test.YtbeefnekblepfaaUaaa
import Derived.Test.YtbeefnekblepfaaUaad


import Derived.Test.YtbeefnekblepfaaZBkX
set_option linter.unusedVariables false
namespace Go.Proofs.Ytbeefnekblepfaa.lawBlockAlike
open Go.ChangeShapes Go.WideShapes Go.ChangeAt Go.RowKit
open Go.ChangeMaps (open_string shut_string)

theorem own : ownKnob Try.prog.godebug = none := by kernel_rfl
theorem fine : Fine Try.prog [24, 23, 3, 26, 43, 5] := by
  unfold Fine
  kernel_rfl

set_option maxRecDepth 100000 in
theorem lifted (os : Os) (started : os.Started) (H : Type) (enc : TypeId × Value → H) :
    ReturnsInHanded {} Try.checked os 4 .any (Rows.blockAlikeSpec.pre6 enc Try.prog Try.f4 Rows.blockAlikeRow.domain false) (Rows.blockAlikeSpec.post enc Try.prog Try.f4 false true false false) := by
  refine returnsInHanded_of_change (C := Try.checked) own started (by kernel_rfl) Try.func4
    (ChangeSpec.witness6 (enc := enc) (C := Try.checked) false ⟨#[], #[.agg #[.int .u8 0, .int .u8 0, .int .u8 0], .agg #[.int .u8 0, .int .u8 0, .int .u8 0], .float .f64 0, .agg #[.slice none 0 0, .int .i64 0, .int .i64 0, .int .i64 0, .int .i64 0], .agg #[.slice none 0 0, .int .i64 0, .int .i64 0, .int .i64 0, .int .i64 0], .float .f64 0, .agg #[.slice none 0 0, .int .i64 0, .int .i64 0, .int .i64 0, .int .i64 0]], []⟩ 8 (by kernel_rfl) (by kernel_rfl) (by kernel_rfl) (by kernel_rfl)) ?_
  intro W base args ds gs before hval0 hW hcnd _
  have hval : ∀ (j : Nat) t v, Try.f4.params[j]? = some t → args[j]? = some v → Value.okWide Try.prog W .any base t v := hval0
  have hW' := hW
  obtain ⟨p, q, hA0, hV, rfl, hfz, hnd⟩ := hW
  have hA : DataW.TrodAll enc Try.prog W 0 (fun _ => true) true Try.f4.params.toList args.toList ds p := hA0
  rw [Try.params4] at hA hval
  obtain ⟨v0, vs0, d0, ds0, p0, q0, hargs, rfl, rfl, h0, r0⟩ := trodAll_cons hA
  obtain ⟨v1, vs1, d1, ds1, p1, q1, rfl, rfl, rfl, h1, r1⟩ := trodAll_cons r0
  obtain ⟨v2, vs2, d2, ds2, p2, q2, rfl, rfl, rfl, h2, r2⟩ := trodAll_cons r1
  obtain ⟨v3, vs3, d3, ds3, p3, q3, rfl, rfl, rfl, h3, r3⟩ := trodAll_cons r2
  obtain ⟨v4, vs4, d4, ds4, p4, q4, rfl, rfl, rfl, h4, r4⟩ := trodAll_cons r3
  obtain ⟨v5, vs5, d5, ds5, p5, q5, rfl, rfl, rfl, h5, r5⟩ := trodAll_cons r4
  obtain ⟨v6, vs6, d6, ds6, p6, q6, rfl, rfl, rfl, h6, r6⟩ := trodAll_cons r5
  obtain ⟨rfl, rfl, rfl⟩ := trodAll_nil r6
  obtain rfl : args = #[v0, v1, v2, v3, v4, v5, v6] := by cases args; simp_all
  obtain ⟨rfl, rfl⟩ := trodVars_none hV
  obtain ⟨y00, y01, y02, rfl, hy00, hy01, hy02⟩ := open_arr3 Try.underlying43 (by kernel_rfl) (by kernel_rfl) Try.underlying5 (hval 0 43 v0 rfl rfl) h0
  obtain ⟨y10, y11, y12, rfl, hy10, hy11, hy12⟩ := open_arr3 Try.underlying43 (by kernel_rfl) (by kernel_rfl) Try.underlying5 (hval 1 43 v1 rfl rfl) h1
  obtain ⟨b2, rfl, hb2⟩ := open_f64 Try.underlying23 (hval 2 23 v2 rfl rfl) h2
  obtain ⟨A3, c3, l3, off3, rr3, k3, ld3, rfl, hc3, hm3, hw3, hr3, ho3, hrr3, hk3, hi3⟩ := open_mat Try.underlying26 (by kernel_rfl) (by kernel_rfl) Try.underlying24 (by kernel_rfl) Try.underlying23 Try.underlying3 Try.underlying3 Try.underlying3 Try.underlying3 (hval 3 26 v3 rfl rfl) h3
  obtain ⟨A4, c4, l4, off4, rr4, k4, ld4, rfl, hc4, hm4, hw4, hr4, ho4, hrr4, hk4, hi4⟩ := open_mat Try.underlying26 (by kernel_rfl) (by kernel_rfl) Try.underlying24 (by kernel_rfl) Try.underlying23 Try.underlying3 Try.underlying3 Try.underlying3 Try.underlying3 (hval 4 26 v4 rfl rfl) h4
  obtain ⟨b5, rfl, hb5⟩ := open_f64 Try.underlying23 (hval 5 23 v5 rfl rfl) h5
  obtain ⟨A6, c6, l6, off6, rr6, k6, ld6, rfl, hc6, hm6, hw6, hr6, ho6, hrr6, hk6, hi6⟩ := open_mat Try.underlying26 (by kernel_rfl) (by kernel_rfl) Try.underlying24 (by kernel_rfl) Try.underlying23 Try.underlying3 Try.underlying3 Try.underlying3 Try.underlying3 (hval 6 26 v6 rfl rfl) h6
  have hfz3 : ∀ b o, A3 = some ⟨b, o, none⟩ → l3 ≠ [] → W.frozen? ⟨b, o, none⟩ = false := by
    intro b o e hne
    subst e
    exact hfz b o (List.mem_append_left _ (List.mem_append_right _ (List.mem_append_right _ (List.mem_append_right _ (List.mem_append_left _ (mat_place Try.underlying26 (by kernel_rfl) Try.underlying24 (by kernel_rfl) h3 (List.length_pos_iff.2 hne)))))))
  have hfz4 : ∀ b o, A4 = some ⟨b, o, none⟩ → l4 ≠ [] → W.frozen? ⟨b, o, none⟩ = false := by
    intro b o e hne
    subst e
    exact hfz b o (List.mem_append_left _ (List.mem_append_right _ (List.mem_append_right _ (List.mem_append_right _ (List.mem_append_right _ (List.mem_append_left _ (mat_place Try.underlying26 (by kernel_rfl) Try.underlying24 (by kernel_rfl) h4 (List.length_pos_iff.2 hne))))))))
  refine (blockAlike_walk y00 y01 y02 y10 y11 y12 b2 A3 c3 l3 off3 rr3 k3 ld3 A4 c4 l4 off4 rr4 k4 ld4 b5 A6 c6 l6 off6 rr6 k6 ld6 W hy00 hy01 hy02 hy10 hy11 hy12 hb2 hb5 hr3 hfz3 hw3 ho3 hrr3 hk3 hi3 hr4 hfz4 hw4 ho4 hrr4 hk4 hi4 hr6 hw6 ho6 hrr6 hk6 hi6).mono fun e W' ⟨he, hg⟩ => ?_
  subst he
  refine ⟨_, rfl, post_again (L := [24, 23, 3, 26, 43, 5]) fine hW' rfl (by rw [Try.params4]; decide) (fun _ _ _ => (trodAll_cons_mk (shut_bool Try.underlying4 _) trodAll_mk0)) rfl rfl hg (ok_one (by kernel_rfl) rfl (okWide_bool_mk Try.underlying4 _))⟩

/-- The statement. -/
theorem proved : Rows.BlockAlikeSaid :=
  OpenClaim.holds_of_wide 4 Try.f4 rfl rfl rfl rfl rfl rfl rfl ⟨rfl, rfl, rfl, rfl, rfl⟩ rfl rfl rfl rfl rfl (by kernel_rfl) Try.func4 (by kernel_rfl)
    (of_decide_eq_true (by kernel_rfl)) (by unfold Func.isWrapper; first | (rw [if_pos (by decide +kernel)]; kernel_rfl) | (rw [if_neg (by decide +kernel)]; exact ⟨rfl, rfl⟩))
    (fun os started H enc _ => lifted os started H enc)
#print axioms proved
end Go.Proofs.Ytbeefnekblepfaa.lawBlockAlike
