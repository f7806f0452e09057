/-
What the proof rests on: laws of floats, lists, memory and the walks of the functions. Conditions: as each says.
-/
import Derived.Test.YtjjneiidggcfdaaAxesCloseZa
import Derived.Below
import Derived.ChangeSame
import Derived.Laws.Cover2
import Derived.Test.YtjjneiidggcfdaaRows
import Derived.KernelRfl
import Derived.WalkKit
import Derived.Laws.Rows
import Derived.Deep.Draws
import Derived.Laws.OwnMore
import Derived.Lib.Hide
import Derived.Laws.FloatBits
import GoSem.Core.Float
import Derived.WalkLawsBesides
import Derived.Laws.BitsAllLaws
import Derived.WalkSpells
import Derived.LoopTactic
import Derived.Outline
import Derived.Laws.Externs
import Derived.Deep.QuietTactic
import Derived.BigQuiet
import Derived.RegionTactic
import Derived.Deep.Slices
import Derived.Deep.Fields
import Derived.Lib.BitFns
import Derived.Deep.RegionHeld3
import Derived.Deep.DrawnRows
import Derived.Deep.RegionWith
import Derived.Shelf.Spec.BitsCarry
import Derived.Deep.OwnRows
import Derived.Deep.DeepCutAuto
import Derived.IntWalk
import Derived.Shelf.Spec.TrailingZeros
import Derived.Lib.LaidTab
import Derived.Lib.ItoaNum
import Derived.Deep.CutBlock
import Derived.Laws.AppendOwn
import Derived.Orders
import Derived.RowKit3
import Derived.Maps.AppendAt
set_option linter.unusedVariables false
set_option linter.unusedSimpArgs false
set_option linter.unnecessarySimpa false
namespace Go.Proofs.Ytjjneiidggcfdaa
open Go.RowKit
attribute [local go_sem ↓] Go.wp_at_zero Go.wp_at_succ

set_option maxRecDepth 100000 in
set_option maxHeartbeats 4000000 in
theorem rends_any (neg : Bool) (A : Option Addr) (n c : Nat) (E : Int) (neg' : Bool) (A' : Option Addr) (n' c' : Nat) (E' : Int) (w : World) (hn : n ≤ 1099511627776) (hn' : n' ≤ 1099511627776) (hE : E.natAbs ≤ 1099511627776) (hE' : E'.natAbs ≤ 1099511627776) (fr tz : Int) (hf : endsF n E n' E' = (fr, tz)) :
    Calls Try.prog 49 #[.agg #[.bool neg, .slice A n c, .int .i64 E], .agg #[.bool neg', .slice A' n' c', .int .i64 E']] w fun e w' => e = .returned (.tuple #[.int .i64 fr, .int .i64 tz]) ∧ Below w.heap.size w w' := by
  have HX := Lib.hid ((Blk.new w 34 #[.bool neg, .slice A n c, .int .i64 E]).alloc (.cells #[.bool neg', .slice A' n' c', .int .i64 E'] 34))
  have HY := Lib.hid (Blk.new_ (w.alloc (.cells #[.bool neg, .slice A n c, .int .i64 E] 34)) 34 #[.bool neg', .slice A' n' c', .int .i64 E'] (w.heap.size + 1) (by simp))
  have HBl := Lib.hid (((Below.refl w.heap.size w).alloc (Nat.le_refl _) (.cells #[.bool neg, .slice A n c, .int .i64 E] 34)).alloc (by simp) (.cells #[.bool neg', .slice A' n' c', .int .i64 E'] 34))
  have hw1 : IntKind.i64.wrap (E + (n : Int)) = E + (n : Int) := iwrap_in (by omega)
  have hw2 : IntKind.i64.wrap (E' + (n' : Int)) = E' + (n' : Int) := iwrap_in (by omega)
  unfold endsF at hf
  by_cases h0 : n = 0
  · rw [if_pos h0] at hf
    injection hf with e1 e2
    subst e1 e2
    have ht : ((n : Int) == 0) = true := by simp [h0]
    clear h0 hn hn' hE hE'
    go_enter Try.func49, Try.ntmps49
    obtain ⟨a0, a1, a2⟩ := cells3 HX.out
    obtain ⟨b0, b1, b2⟩ := cells3 HY.out
    go_wp2_with fail
    generalize hW0 : ((w.alloc (.cells #[.bool neg, .slice A n c, .int .i64 E] 34)).alloc (.cells #[.bool neg', .slice A' n' c', .int .i64 E'] 34)) = W0 at *
    clear a0 a1 a2 b0 b1 b2 hW0
    refine wp_region_inv [10, 11, 12, 13, 14, 15, 16, 17, 4, 5] (fun d s W => (d 0 = true → s 10 = .pointer (some ⟨w.heap.size + 1, 2, none⟩)) ∧ (d 1 = true → s 11 = .int .i64 E') ∧ (d 2 = true → s 12 = .pointer (some ⟨w.heap.size + 1, 2, none⟩)) ∧ (d 3 = true → s 13 = .int .i64 E') ∧ (d 4 = true → s 14 = .pointer (some ⟨w.heap.size + 1, 1, none⟩)) ∧ (d 5 = true → s 15 = .slice A' n' c') ∧ (d 6 = true → s 16 = .int .i64 (n' : Int)) ∧ (d 7 = true → s 17 = .int .i64 (E' + (n' : Int))) ∧ (d 8 = true → s 4 = .int .i64 E') ∧ (d 9 = true → s 5 = .int .i64 (E' + (n' : Int))) ∧ Below W0.heap.size W0 W)
      rfl (by kernel_rfl) ?_ ?_ ?_
    · exact ⟨by simp, by simp, by simp, by simp, by simp, by simp, by simp, by simp, by simp, by simp, (Below.refl _ _).drew⟩
    · refine ⟨?_, ?_, ?_, ?_, ?_, ?_, ?_, ?_, ?_, ?_, trivial⟩
      all_goals
        intro d s W hJ hfr hd hdep
        simp only [List.mem_cons, forall_eq_or_imp, List.not_mem_nil, false_implies, implies_true, and_true, Region.binds] at hdep
        have f3 := hfr 3 (by decide)
        simp at f3 hdep
        obtain ⟨h0, h1, h2, h3, h4, h5, h6, h7, h8, h9, hT⟩ := hJ
      · unfold OpSteps
        simp [go_sem, evS, f3]
        exact ⟨fun _ => by simp [sput], fun h => by simpa [sput] using h1 (by simpa [did] using h), fun h => by simpa [sput] using h2 (by simpa [did] using h), fun h => by simpa [sput] using h3 (by simpa [did] using h), fun h => by simpa [sput] using h4 (by simpa [did] using h), fun h => by simpa [sput] using h5 (by simpa [did] using h), fun h => by simpa [sput] using h6 (by simpa [did] using h), fun h => by simpa [sput] using h7 (by simpa [did] using h), fun h => by simpa [sput] using h8 (by simpa [did] using h), fun h => by simpa [sput] using h9 (by simpa [did] using h), hT⟩
      · have fz0 := h0 (by simp [hdep])
        unfold OpSteps
        obtain ⟨p0, p1, p2⟩ := cells3 (HY.out.below hT HY.out.lt)
        simp [go_sem, evS, fz0, p0, p1, p2]
        exact ⟨fun h => by simpa [sput] using h0 (by simpa [did] using h), fun _ => by simp [sput], fun h => by simpa [sput] using h2 (by simpa [did] using h), fun h => by simpa [sput] using h3 (by simpa [did] using h), fun h => by simpa [sput] using h4 (by simpa [did] using h), fun h => by simpa [sput] using h5 (by simpa [did] using h), fun h => by simpa [sput] using h6 (by simpa [did] using h), fun h => by simpa [sput] using h7 (by simpa [did] using h), fun h => by simpa [sput] using h8 (by simpa [did] using h), fun h => by simpa [sput] using h9 (by simpa [did] using h), hT⟩
      · unfold OpSteps
        simp [go_sem, evS, f3]
        exact ⟨fun h => by simpa [sput] using h0 (by simpa [did] using h), fun h => by simpa [sput] using h1 (by simpa [did] using h), fun _ => by simp [sput], fun h => by simpa [sput] using h3 (by simpa [did] using h), fun h => by simpa [sput] using h4 (by simpa [did] using h), fun h => by simpa [sput] using h5 (by simpa [did] using h), fun h => by simpa [sput] using h6 (by simpa [did] using h), fun h => by simpa [sput] using h7 (by simpa [did] using h), fun h => by simpa [sput] using h8 (by simpa [did] using h), fun h => by simpa [sput] using h9 (by simpa [did] using h), hT⟩
      · have fz2 := h2 (by simp [hdep])
        unfold OpSteps
        obtain ⟨p0, p1, p2⟩ := cells3 (HY.out.below hT HY.out.lt)
        simp [go_sem, evS, fz2, p0, p1, p2]
        exact ⟨fun h => by simpa [sput] using h0 (by simpa [did] using h), fun h => by simpa [sput] using h1 (by simpa [did] using h), fun h => by simpa [sput] using h2 (by simpa [did] using h), fun _ => by simp [sput], fun h => by simpa [sput] using h4 (by simpa [did] using h), fun h => by simpa [sput] using h5 (by simpa [did] using h), fun h => by simpa [sput] using h6 (by simpa [did] using h), fun h => by simpa [sput] using h7 (by simpa [did] using h), fun h => by simpa [sput] using h8 (by simpa [did] using h), fun h => by simpa [sput] using h9 (by simpa [did] using h), hT⟩
      · unfold OpSteps
        simp [go_sem, evS, f3]
        exact ⟨fun h => by simpa [sput] using h0 (by simpa [did] using h), fun h => by simpa [sput] using h1 (by simpa [did] using h), fun h => by simpa [sput] using h2 (by simpa [did] using h), fun h => by simpa [sput] using h3 (by simpa [did] using h), fun _ => by simp [sput], fun h => by simpa [sput] using h5 (by simpa [did] using h), fun h => by simpa [sput] using h6 (by simpa [did] using h), fun h => by simpa [sput] using h7 (by simpa [did] using h), fun h => by simpa [sput] using h8 (by simpa [did] using h), fun h => by simpa [sput] using h9 (by simpa [did] using h), hT⟩
      · have fz4 := h4 (by simp [hdep])
        unfold OpSteps
        obtain ⟨p0, p1, p2⟩ := cells3 (HY.out.below hT HY.out.lt)
        simp [go_sem, evS, fz4, p0, p1, p2]
        exact ⟨fun h => by simpa [sput] using h0 (by simpa [did] using h), fun h => by simpa [sput] using h1 (by simpa [did] using h), fun h => by simpa [sput] using h2 (by simpa [did] using h), fun h => by simpa [sput] using h3 (by simpa [did] using h), fun h => by simpa [sput] using h4 (by simpa [did] using h), fun _ => by simp [sput], fun h => by simpa [sput] using h6 (by simpa [did] using h), fun h => by simpa [sput] using h7 (by simpa [did] using h), fun h => by simpa [sput] using h8 (by simpa [did] using h), fun h => by simpa [sput] using h9 (by simpa [did] using h), hT⟩
      · have fz5 := h5 (by simp [hdep])
        unfold OpSteps
        simp [go_sem, evS, fz5]
        exact ⟨fun h => by simpa [sput] using h0 (by simpa [did] using h), fun h => by simpa [sput] using h1 (by simpa [did] using h), fun h => by simpa [sput] using h2 (by simpa [did] using h), fun h => by simpa [sput] using h3 (by simpa [did] using h), fun h => by simpa [sput] using h4 (by simpa [did] using h), fun h => by simpa [sput] using h5 (by simpa [did] using h), fun _ => by simp [sput], fun h => by simpa [sput] using h7 (by simpa [did] using h), fun h => by simpa [sput] using h8 (by simpa [did] using h), fun h => by simpa [sput] using h9 (by simpa [did] using h), hT⟩
      · have fz3 := h3 (by simp [hdep])
        have fz6 := h6 (by simp [hdep])
        unfold OpSteps
        simp [go_sem, evS, fz3, fz6, hw2]
        exact ⟨fun h => by simpa [sput] using h0 (by simpa [did] using h), fun h => by simpa [sput] using h1 (by simpa [did] using h), fun h => by simpa [sput] using h2 (by simpa [did] using h), fun h => by simpa [sput] using h3 (by simpa [did] using h), fun h => by simpa [sput] using h4 (by simpa [did] using h), fun h => by simpa [sput] using h5 (by simpa [did] using h), fun h => by simpa [sput] using h6 (by simpa [did] using h), fun _ => by simp [sput], fun h => by simpa [sput] using h8 (by simpa [did] using h), fun h => by simpa [sput] using h9 (by simpa [did] using h), hT⟩
      · have fz1 := h1 (by simp [hdep])
        unfold OpSteps
        simp [go_sem, evS, fz1]
        exact ⟨fun h => by simpa [sput] using h0 (by simpa [did] using h), fun h => by simpa [sput] using h1 (by simpa [did] using h), fun h => by simpa [sput] using h2 (by simpa [did] using h), fun h => by simpa [sput] using h3 (by simpa [did] using h), fun h => by simpa [sput] using h4 (by simpa [did] using h), fun h => by simpa [sput] using h5 (by simpa [did] using h), fun h => by simpa [sput] using h6 (by simpa [did] using h), fun h => by simpa [sput] using h7 (by simpa [did] using h), fun _ => by simp [sput], fun h => by simpa [sput] using h9 (by simpa [did] using h), hT⟩
      · have fz7 := h7 (by simp [hdep])
        unfold OpSteps
        simp [go_sem, evS, fz7]
        exact ⟨fun h => by simpa [sput] using h0 (by simpa [did] using h), fun h => by simpa [sput] using h1 (by simpa [did] using h), fun h => by simpa [sput] using h2 (by simpa [did] using h), fun h => by simpa [sput] using h3 (by simpa [did] using h), fun h => by simpa [sput] using h4 (by simpa [did] using h), fun h => by simpa [sput] using h5 (by simpa [did] using h), fun h => by simpa [sput] using h6 (by simpa [did] using h), fun h => by simpa [sput] using h7 (by simpa [did] using h), fun h => by simpa [sput] using h8 (by simpa [did] using h), fun _ => by simp [sput], hT⟩
    intro d s W hJ hd
    obtain ⟨h0, h1, h2, h3, h4, h5, h6, h7, h8, h9, hT⟩ := hJ
    have hs4 := h8 (hd 8 (by decide))
    have hs5 := h9 (hd 9 (by decide))
    have HBe := Lib.hid (below_nx HBl.out hT)
    clear h0 h1 h2 h3 h4 h5 h6 h7 h8 h9 hT hd
    simp [setAll, hs4, hs5]
    clear hs4 hs5
    go_wp2_with fail
    go_ret2
    exact ⟨rfl, HBe.out⟩
  · rw [if_neg h0] at hf
    have ht : ((n : Int) == 0) = false := by simp; omega
    by_cases h1 : n' = 0
    · rw [if_pos h1] at hf
      injection hf with e1 e2
      subst e1 e2
      have ht2 : ((n' : Int) == 0) = true := by simp [h1]
      clear h0 h1 hn hn' hE hE'
      go_enter Try.func49, Try.ntmps49
      obtain ⟨a0, a1, a2⟩ := cells3 HX.out
      obtain ⟨b0, b1, b2⟩ := cells3 HY.out
      go_wp2_with fail
      generalize hW0 : ((w.alloc (.cells #[.bool neg, .slice A n c, .int .i64 E] 34)).alloc (.cells #[.bool neg', .slice A' n' c', .int .i64 E'] 34)) = W0 at *
      clear a0 a1 a2 b0 b1 b2 hW0
      refine wp_region_inv [22, 23, 24, 25, 26, 27, 28, 29, 4, 5] (fun d s W => (d 0 = true → s 22 = .pointer (some ⟨w.heap.size, 2, none⟩)) ∧ (d 1 = true → s 23 = .int .i64 E) ∧ (d 2 = true → s 24 = .pointer (some ⟨w.heap.size, 2, none⟩)) ∧ (d 3 = true → s 25 = .int .i64 E) ∧ (d 4 = true → s 26 = .pointer (some ⟨w.heap.size, 1, none⟩)) ∧ (d 5 = true → s 27 = .slice A n c) ∧ (d 6 = true → s 28 = .int .i64 (n : Int)) ∧ (d 7 = true → s 29 = .int .i64 (E + (n : Int))) ∧ (d 8 = true → s 4 = .int .i64 E) ∧ (d 9 = true → s 5 = .int .i64 (E + (n : Int))) ∧ Below W0.heap.size W0 W)
        rfl (by kernel_rfl) ?_ ?_ ?_
      · exact ⟨by simp, by simp, by simp, by simp, by simp, by simp, by simp, by simp, by simp, by simp, (Below.refl _ _).drew⟩
      · refine ⟨?_, ?_, ?_, ?_, ?_, ?_, ?_, ?_, ?_, ?_, trivial⟩
        all_goals
          intro d s W hJ hfr hd hdep
          simp only [List.mem_cons, forall_eq_or_imp, List.not_mem_nil, false_implies, implies_true, and_true, Region.binds] at hdep
          have f2 := hfr 2 (by decide)
          simp at f2 hdep
          obtain ⟨h0, h1, h2, h3, h4, h5, h6, h7, h8, h9, hT⟩ := hJ
        · unfold OpSteps
          simp [go_sem, evS, f2]
          exact ⟨fun _ => by simp [sput], fun h => by simpa [sput] using h1 (by simpa [did] using h), fun h => by simpa [sput] using h2 (by simpa [did] using h), fun h => by simpa [sput] using h3 (by simpa [did] using h), fun h => by simpa [sput] using h4 (by simpa [did] using h), fun h => by simpa [sput] using h5 (by simpa [did] using h), fun h => by simpa [sput] using h6 (by simpa [did] using h), fun h => by simpa [sput] using h7 (by simpa [did] using h), fun h => by simpa [sput] using h8 (by simpa [did] using h), fun h => by simpa [sput] using h9 (by simpa [did] using h), hT⟩
        · have fz0 := h0 (by simp [hdep])
          unfold OpSteps
          obtain ⟨p0, p1, p2⟩ := cells3 (HX.out.below hT HX.out.lt)
          simp [go_sem, evS, fz0, p0, p1, p2]
          exact ⟨fun h => by simpa [sput] using h0 (by simpa [did] using h), fun _ => by simp [sput], fun h => by simpa [sput] using h2 (by simpa [did] using h), fun h => by simpa [sput] using h3 (by simpa [did] using h), fun h => by simpa [sput] using h4 (by simpa [did] using h), fun h => by simpa [sput] using h5 (by simpa [did] using h), fun h => by simpa [sput] using h6 (by simpa [did] using h), fun h => by simpa [sput] using h7 (by simpa [did] using h), fun h => by simpa [sput] using h8 (by simpa [did] using h), fun h => by simpa [sput] using h9 (by simpa [did] using h), hT⟩
        · unfold OpSteps
          simp [go_sem, evS, f2]
          exact ⟨fun h => by simpa [sput] using h0 (by simpa [did] using h), fun h => by simpa [sput] using h1 (by simpa [did] using h), fun _ => by simp [sput], fun h => by simpa [sput] using h3 (by simpa [did] using h), fun h => by simpa [sput] using h4 (by simpa [did] using h), fun h => by simpa [sput] using h5 (by simpa [did] using h), fun h => by simpa [sput] using h6 (by simpa [did] using h), fun h => by simpa [sput] using h7 (by simpa [did] using h), fun h => by simpa [sput] using h8 (by simpa [did] using h), fun h => by simpa [sput] using h9 (by simpa [did] using h), hT⟩
        · have fz2 := h2 (by simp [hdep])
          unfold OpSteps
          obtain ⟨p0, p1, p2⟩ := cells3 (HX.out.below hT HX.out.lt)
          simp [go_sem, evS, fz2, p0, p1, p2]
          exact ⟨fun h => by simpa [sput] using h0 (by simpa [did] using h), fun h => by simpa [sput] using h1 (by simpa [did] using h), fun h => by simpa [sput] using h2 (by simpa [did] using h), fun _ => by simp [sput], fun h => by simpa [sput] using h4 (by simpa [did] using h), fun h => by simpa [sput] using h5 (by simpa [did] using h), fun h => by simpa [sput] using h6 (by simpa [did] using h), fun h => by simpa [sput] using h7 (by simpa [did] using h), fun h => by simpa [sput] using h8 (by simpa [did] using h), fun h => by simpa [sput] using h9 (by simpa [did] using h), hT⟩
        · unfold OpSteps
          simp [go_sem, evS, f2]
          exact ⟨fun h => by simpa [sput] using h0 (by simpa [did] using h), fun h => by simpa [sput] using h1 (by simpa [did] using h), fun h => by simpa [sput] using h2 (by simpa [did] using h), fun h => by simpa [sput] using h3 (by simpa [did] using h), fun _ => by simp [sput], fun h => by simpa [sput] using h5 (by simpa [did] using h), fun h => by simpa [sput] using h6 (by simpa [did] using h), fun h => by simpa [sput] using h7 (by simpa [did] using h), fun h => by simpa [sput] using h8 (by simpa [did] using h), fun h => by simpa [sput] using h9 (by simpa [did] using h), hT⟩
        · have fz4 := h4 (by simp [hdep])
          unfold OpSteps
          obtain ⟨p0, p1, p2⟩ := cells3 (HX.out.below hT HX.out.lt)
          simp [go_sem, evS, fz4, p0, p1, p2]
          exact ⟨fun h => by simpa [sput] using h0 (by simpa [did] using h), fun h => by simpa [sput] using h1 (by simpa [did] using h), fun h => by simpa [sput] using h2 (by simpa [did] using h), fun h => by simpa [sput] using h3 (by simpa [did] using h), fun h => by simpa [sput] using h4 (by simpa [did] using h), fun _ => by simp [sput], fun h => by simpa [sput] using h6 (by simpa [did] using h), fun h => by simpa [sput] using h7 (by simpa [did] using h), fun h => by simpa [sput] using h8 (by simpa [did] using h), fun h => by simpa [sput] using h9 (by simpa [did] using h), hT⟩
        · have fz5 := h5 (by simp [hdep])
          unfold OpSteps
          simp [go_sem, evS, fz5]
          exact ⟨fun h => by simpa [sput] using h0 (by simpa [did] using h), fun h => by simpa [sput] using h1 (by simpa [did] using h), fun h => by simpa [sput] using h2 (by simpa [did] using h), fun h => by simpa [sput] using h3 (by simpa [did] using h), fun h => by simpa [sput] using h4 (by simpa [did] using h), fun h => by simpa [sput] using h5 (by simpa [did] using h), fun _ => by simp [sput], fun h => by simpa [sput] using h7 (by simpa [did] using h), fun h => by simpa [sput] using h8 (by simpa [did] using h), fun h => by simpa [sput] using h9 (by simpa [did] using h), hT⟩
        · have fz3 := h3 (by simp [hdep])
          have fz6 := h6 (by simp [hdep])
          unfold OpSteps
          simp [go_sem, evS, fz3, fz6, hw1]
          exact ⟨fun h => by simpa [sput] using h0 (by simpa [did] using h), fun h => by simpa [sput] using h1 (by simpa [did] using h), fun h => by simpa [sput] using h2 (by simpa [did] using h), fun h => by simpa [sput] using h3 (by simpa [did] using h), fun h => by simpa [sput] using h4 (by simpa [did] using h), fun h => by simpa [sput] using h5 (by simpa [did] using h), fun h => by simpa [sput] using h6 (by simpa [did] using h), fun _ => by simp [sput], fun h => by simpa [sput] using h8 (by simpa [did] using h), fun h => by simpa [sput] using h9 (by simpa [did] using h), hT⟩
        · have fz1 := h1 (by simp [hdep])
          unfold OpSteps
          simp [go_sem, evS, fz1]
          exact ⟨fun h => by simpa [sput] using h0 (by simpa [did] using h), fun h => by simpa [sput] using h1 (by simpa [did] using h), fun h => by simpa [sput] using h2 (by simpa [did] using h), fun h => by simpa [sput] using h3 (by simpa [did] using h), fun h => by simpa [sput] using h4 (by simpa [did] using h), fun h => by simpa [sput] using h5 (by simpa [did] using h), fun h => by simpa [sput] using h6 (by simpa [did] using h), fun h => by simpa [sput] using h7 (by simpa [did] using h), fun _ => by simp [sput], fun h => by simpa [sput] using h9 (by simpa [did] using h), hT⟩
        · have fz7 := h7 (by simp [hdep])
          unfold OpSteps
          simp [go_sem, evS, fz7]
          exact ⟨fun h => by simpa [sput] using h0 (by simpa [did] using h), fun h => by simpa [sput] using h1 (by simpa [did] using h), fun h => by simpa [sput] using h2 (by simpa [did] using h), fun h => by simpa [sput] using h3 (by simpa [did] using h), fun h => by simpa [sput] using h4 (by simpa [did] using h), fun h => by simpa [sput] using h5 (by simpa [did] using h), fun h => by simpa [sput] using h6 (by simpa [did] using h), fun h => by simpa [sput] using h7 (by simpa [did] using h), fun h => by simpa [sput] using h8 (by simpa [did] using h), fun _ => by simp [sput], hT⟩
      intro d s W hJ hd
      obtain ⟨h0, h1, h2, h3, h4, h5, h6, h7, h8, h9, hT⟩ := hJ
      have hs4 := h8 (hd 8 (by decide))
      have hs5 := h9 (hd 9 (by decide))
      have HBe := Lib.hid (below_nx HBl.out hT)
      clear h0 h1 h2 h3 h4 h5 h6 h7 h8 h9 hT hd
      simp [setAll, hs4, hs5]
      clear hs4 hs5
      go_wp2_with fail
      go_ret2
      exact ⟨rfl, HBe.out⟩
    · rw [if_neg h1] at hf
      injection hf with e1 e2
      subst e1 e2
      have ht2 : ((n' : Int) == 0) = false := by simp; omega
      obtain ⟨fr, hfr⟩ : ∃ fr, min E E' = fr := ⟨_, rfl⟩
      obtain ⟨tz, hto⟩ : ∃ tz, max (E + (n : Int)) (E' + (n' : Int)) = tz := ⟨_, rfl⟩
      have hrm : (if E' < E then E' else E) = fr := by rw [← hfr]; split <;> omega
      have hrx : (if E + (n : Int) < E' + (n' : Int) then E' + (n' : Int) else E + (n : Int)) = tz := by rw [← hto]; split <;> omega
      rw [hfr, hto]
      clear h0 h1 hn hn' hE hE' hfr hto
      go_enter Try.func49, Try.ntmps49
      obtain ⟨a0, a1, a2⟩ := cells3 HX.out
      obtain ⟨b0, b1, b2⟩ := cells3 HY.out
      go_wp2_with fail
      generalize hW0 : ((w.alloc (.cells #[.bool neg, .slice A n c, .int .i64 E] 34)).alloc (.cells #[.bool neg', .slice A' n' c', .int .i64 E'] 34)) = W0 at *
      clear a0 a1 a2 b0 b1 b2 hW0
      refine wp_region_inv [30, 31, 32, 33, 34, 35, 36, 37, 38, 39, 40, 41, 42, 43, 44, 45, 46, 47, 4, 5] (fun d s W => (d 0 = true → s 30 = .pointer (some ⟨w.heap.size, 2, none⟩)) ∧ (d 1 = true → s 31 = .int .i64 E) ∧ (d 2 = true → s 32 = .pointer (some ⟨w.heap.size + 1, 2, none⟩)) ∧ (d 3 = true → s 33 = .int .i64 E') ∧ (d 4 = true → s 34 = .int .i64 fr) ∧ (d 5 = true → s 35 = .pointer (some ⟨w.heap.size, 2, none⟩)) ∧ (d 6 = true → s 36 = .int .i64 E) ∧ (d 7 = true → s 37 = .pointer (some ⟨w.heap.size, 1, none⟩)) ∧ (d 8 = true → s 38 = .slice A n c) ∧ (d 9 = true → s 39 = .int .i64 (n : Int)) ∧ (d 10 = true → s 40 = .int .i64 (E + (n : Int))) ∧ (d 11 = true → s 41 = .pointer (some ⟨w.heap.size + 1, 2, none⟩)) ∧ (d 12 = true → s 42 = .int .i64 E') ∧ (d 13 = true → s 43 = .pointer (some ⟨w.heap.size + 1, 1, none⟩)) ∧ (d 14 = true → s 44 = .slice A' n' c') ∧ (d 15 = true → s 45 = .int .i64 (n' : Int)) ∧ (d 16 = true → s 46 = .int .i64 (E' + (n' : Int))) ∧ (d 17 = true → s 47 = .int .i64 tz) ∧ (d 18 = true → s 4 = .int .i64 fr) ∧ (d 19 = true → s 5 = .int .i64 tz) ∧ Below W0.heap.size W0 W)
        rfl (by kernel_rfl) ?_ ?_ ?_
      · exact ⟨by simp, by simp, by simp, by simp, by simp, by simp, by simp, by simp, by simp, by simp, by simp, by simp, by simp, by simp, by simp, by simp, by simp, by simp, by simp, by simp, (Below.refl _ _).drew⟩
      · refine ⟨?_, ?_, ?_, ?_, ?_, ?_, ?_, ?_, ?_, ?_, ?_, ?_, ?_, ?_, ?_, ?_, ?_, ?_, ?_, ?_, trivial⟩
        all_goals
          intro d s W hJ hfr hd hdep
          simp only [List.mem_cons, forall_eq_or_imp, List.not_mem_nil, false_implies, implies_true, and_true, Region.binds] at hdep
          have f2 := hfr 2 (by decide)
          have f3 := hfr 3 (by decide)
          simp at f2 f3 hdep
          obtain ⟨h0, h1, h2, h3, h4, h5, h6, h7, h8, h9, h10, h11, h12, h13, h14, h15, h16, h17, h18, h19, hT⟩ := hJ
        · unfold OpSteps
          simp [go_sem, evS, f2]
          exact ⟨fun _ => by simp [sput], fun h => by simpa [sput] using h1 (by simpa [did] using h), fun h => by simpa [sput] using h2 (by simpa [did] using h), fun h => by simpa [sput] using h3 (by simpa [did] using h), fun h => by simpa [sput] using h4 (by simpa [did] using h), fun h => by simpa [sput] using h5 (by simpa [did] using h), fun h => by simpa [sput] using h6 (by simpa [did] using h), fun h => by simpa [sput] using h7 (by simpa [did] using h), fun h => by simpa [sput] using h8 (by simpa [did] using h), fun h => by simpa [sput] using h9 (by simpa [did] using h), fun h => by simpa [sput] using h10 (by simpa [did] using h), fun h => by simpa [sput] using h11 (by simpa [did] using h), fun h => by simpa [sput] using h12 (by simpa [did] using h), fun h => by simpa [sput] using h13 (by simpa [did] using h), fun h => by simpa [sput] using h14 (by simpa [did] using h), fun h => by simpa [sput] using h15 (by simpa [did] using h), fun h => by simpa [sput] using h16 (by simpa [did] using h), fun h => by simpa [sput] using h17 (by simpa [did] using h), fun h => by simpa [sput] using h18 (by simpa [did] using h), fun h => by simpa [sput] using h19 (by simpa [did] using h), hT⟩
        · have fz0 := h0 (by simp [hdep])
          unfold OpSteps
          obtain ⟨p0, p1, p2⟩ := cells3 (HX.out.below hT HX.out.lt)
          simp [go_sem, evS, fz0, p0, p1, p2]
          exact ⟨fun h => by simpa [sput] using h0 (by simpa [did] using h), fun _ => by simp [sput], fun h => by simpa [sput] using h2 (by simpa [did] using h), fun h => by simpa [sput] using h3 (by simpa [did] using h), fun h => by simpa [sput] using h4 (by simpa [did] using h), fun h => by simpa [sput] using h5 (by simpa [did] using h), fun h => by simpa [sput] using h6 (by simpa [did] using h), fun h => by simpa [sput] using h7 (by simpa [did] using h), fun h => by simpa [sput] using h8 (by simpa [did] using h), fun h => by simpa [sput] using h9 (by simpa [did] using h), fun h => by simpa [sput] using h10 (by simpa [did] using h), fun h => by simpa [sput] using h11 (by simpa [did] using h), fun h => by simpa [sput] using h12 (by simpa [did] using h), fun h => by simpa [sput] using h13 (by simpa [did] using h), fun h => by simpa [sput] using h14 (by simpa [did] using h), fun h => by simpa [sput] using h15 (by simpa [did] using h), fun h => by simpa [sput] using h16 (by simpa [did] using h), fun h => by simpa [sput] using h17 (by simpa [did] using h), fun h => by simpa [sput] using h18 (by simpa [did] using h), fun h => by simpa [sput] using h19 (by simpa [did] using h), hT⟩
        · unfold OpSteps
          simp [go_sem, evS, f3]
          exact ⟨fun h => by simpa [sput] using h0 (by simpa [did] using h), fun h => by simpa [sput] using h1 (by simpa [did] using h), fun _ => by simp [sput], fun h => by simpa [sput] using h3 (by simpa [did] using h), fun h => by simpa [sput] using h4 (by simpa [did] using h), fun h => by simpa [sput] using h5 (by simpa [did] using h), fun h => by simpa [sput] using h6 (by simpa [did] using h), fun h => by simpa [sput] using h7 (by simpa [did] using h), fun h => by simpa [sput] using h8 (by simpa [did] using h), fun h => by simpa [sput] using h9 (by simpa [did] using h), fun h => by simpa [sput] using h10 (by simpa [did] using h), fun h => by simpa [sput] using h11 (by simpa [did] using h), fun h => by simpa [sput] using h12 (by simpa [did] using h), fun h => by simpa [sput] using h13 (by simpa [did] using h), fun h => by simpa [sput] using h14 (by simpa [did] using h), fun h => by simpa [sput] using h15 (by simpa [did] using h), fun h => by simpa [sput] using h16 (by simpa [did] using h), fun h => by simpa [sput] using h17 (by simpa [did] using h), fun h => by simpa [sput] using h18 (by simpa [did] using h), fun h => by simpa [sput] using h19 (by simpa [did] using h), hT⟩
        · have fz2 := h2 (by simp [hdep])
          unfold OpSteps
          obtain ⟨p0, p1, p2⟩ := cells3 (HY.out.below hT HY.out.lt)
          simp [go_sem, evS, fz2, p0, p1, p2]
          exact ⟨fun h => by simpa [sput] using h0 (by simpa [did] using h), fun h => by simpa [sput] using h1 (by simpa [did] using h), fun h => by simpa [sput] using h2 (by simpa [did] using h), fun _ => by simp [sput], fun h => by simpa [sput] using h4 (by simpa [did] using h), fun h => by simpa [sput] using h5 (by simpa [did] using h), fun h => by simpa [sput] using h6 (by simpa [did] using h), fun h => by simpa [sput] using h7 (by simpa [did] using h), fun h => by simpa [sput] using h8 (by simpa [did] using h), fun h => by simpa [sput] using h9 (by simpa [did] using h), fun h => by simpa [sput] using h10 (by simpa [did] using h), fun h => by simpa [sput] using h11 (by simpa [did] using h), fun h => by simpa [sput] using h12 (by simpa [did] using h), fun h => by simpa [sput] using h13 (by simpa [did] using h), fun h => by simpa [sput] using h14 (by simpa [did] using h), fun h => by simpa [sput] using h15 (by simpa [did] using h), fun h => by simpa [sput] using h16 (by simpa [did] using h), fun h => by simpa [sput] using h17 (by simpa [did] using h), fun h => by simpa [sput] using h18 (by simpa [did] using h), fun h => by simpa [sput] using h19 (by simpa [did] using h), hT⟩
        · have fz1 := h1 (by simp [hdep])
          have fz3 := h3 (by simp [hdep])
          unfold OpSteps
          simp [go_sem, evS, fz1, fz3, hrm]
          exact ⟨fun h => by simpa [sput] using h0 (by simpa [did] using h), fun h => by simpa [sput] using h1 (by simpa [did] using h), fun h => by simpa [sput] using h2 (by simpa [did] using h), fun h => by simpa [sput] using h3 (by simpa [did] using h), fun _ => by simp [sput], fun h => by simpa [sput] using h5 (by simpa [did] using h), fun h => by simpa [sput] using h6 (by simpa [did] using h), fun h => by simpa [sput] using h7 (by simpa [did] using h), fun h => by simpa [sput] using h8 (by simpa [did] using h), fun h => by simpa [sput] using h9 (by simpa [did] using h), fun h => by simpa [sput] using h10 (by simpa [did] using h), fun h => by simpa [sput] using h11 (by simpa [did] using h), fun h => by simpa [sput] using h12 (by simpa [did] using h), fun h => by simpa [sput] using h13 (by simpa [did] using h), fun h => by simpa [sput] using h14 (by simpa [did] using h), fun h => by simpa [sput] using h15 (by simpa [did] using h), fun h => by simpa [sput] using h16 (by simpa [did] using h), fun h => by simpa [sput] using h17 (by simpa [did] using h), fun h => by simpa [sput] using h18 (by simpa [did] using h), fun h => by simpa [sput] using h19 (by simpa [did] using h), hT⟩
        · unfold OpSteps
          simp [go_sem, evS, f2]
          exact ⟨fun h => by simpa [sput] using h0 (by simpa [did] using h), fun h => by simpa [sput] using h1 (by simpa [did] using h), fun h => by simpa [sput] using h2 (by simpa [did] using h), fun h => by simpa [sput] using h3 (by simpa [did] using h), fun h => by simpa [sput] using h4 (by simpa [did] using h), fun _ => by simp [sput], fun h => by simpa [sput] using h6 (by simpa [did] using h), fun h => by simpa [sput] using h7 (by simpa [did] using h), fun h => by simpa [sput] using h8 (by simpa [did] using h), fun h => by simpa [sput] using h9 (by simpa [did] using h), fun h => by simpa [sput] using h10 (by simpa [did] using h), fun h => by simpa [sput] using h11 (by simpa [did] using h), fun h => by simpa [sput] using h12 (by simpa [did] using h), fun h => by simpa [sput] using h13 (by simpa [did] using h), fun h => by simpa [sput] using h14 (by simpa [did] using h), fun h => by simpa [sput] using h15 (by simpa [did] using h), fun h => by simpa [sput] using h16 (by simpa [did] using h), fun h => by simpa [sput] using h17 (by simpa [did] using h), fun h => by simpa [sput] using h18 (by simpa [did] using h), fun h => by simpa [sput] using h19 (by simpa [did] using h), hT⟩
        · have fz5 := h5 (by simp [hdep])
          unfold OpSteps
          obtain ⟨p0, p1, p2⟩ := cells3 (HX.out.below hT HX.out.lt)
          simp [go_sem, evS, fz5, p0, p1, p2]
          exact ⟨fun h => by simpa [sput] using h0 (by simpa [did] using h), fun h => by simpa [sput] using h1 (by simpa [did] using h), fun h => by simpa [sput] using h2 (by simpa [did] using h), fun h => by simpa [sput] using h3 (by simpa [did] using h), fun h => by simpa [sput] using h4 (by simpa [did] using h), fun h => by simpa [sput] using h5 (by simpa [did] using h), fun _ => by simp [sput], fun h => by simpa [sput] using h7 (by simpa [did] using h), fun h => by simpa [sput] using h8 (by simpa [did] using h), fun h => by simpa [sput] using h9 (by simpa [did] using h), fun h => by simpa [sput] using h10 (by simpa [did] using h), fun h => by simpa [sput] using h11 (by simpa [did] using h), fun h => by simpa [sput] using h12 (by simpa [did] using h), fun h => by simpa [sput] using h13 (by simpa [did] using h), fun h => by simpa [sput] using h14 (by simpa [did] using h), fun h => by simpa [sput] using h15 (by simpa [did] using h), fun h => by simpa [sput] using h16 (by simpa [did] using h), fun h => by simpa [sput] using h17 (by simpa [did] using h), fun h => by simpa [sput] using h18 (by simpa [did] using h), fun h => by simpa [sput] using h19 (by simpa [did] using h), hT⟩
        · unfold OpSteps
          simp [go_sem, evS, f2]
          exact ⟨fun h => by simpa [sput] using h0 (by simpa [did] using h), fun h => by simpa [sput] using h1 (by simpa [did] using h), fun h => by simpa [sput] using h2 (by simpa [did] using h), fun h => by simpa [sput] using h3 (by simpa [did] using h), fun h => by simpa [sput] using h4 (by simpa [did] using h), fun h => by simpa [sput] using h5 (by simpa [did] using h), fun h => by simpa [sput] using h6 (by simpa [did] using h), fun _ => by simp [sput], fun h => by simpa [sput] using h8 (by simpa [did] using h), fun h => by simpa [sput] using h9 (by simpa [did] using h), fun h => by simpa [sput] using h10 (by simpa [did] using h), fun h => by simpa [sput] using h11 (by simpa [did] using h), fun h => by simpa [sput] using h12 (by simpa [did] using h), fun h => by simpa [sput] using h13 (by simpa [did] using h), fun h => by simpa [sput] using h14 (by simpa [did] using h), fun h => by simpa [sput] using h15 (by simpa [did] using h), fun h => by simpa [sput] using h16 (by simpa [did] using h), fun h => by simpa [sput] using h17 (by simpa [did] using h), fun h => by simpa [sput] using h18 (by simpa [did] using h), fun h => by simpa [sput] using h19 (by simpa [did] using h), hT⟩
        · have fz7 := h7 (by simp [hdep])
          unfold OpSteps
          obtain ⟨p0, p1, p2⟩ := cells3 (HX.out.below hT HX.out.lt)
          simp [go_sem, evS, fz7, p0, p1, p2]
          exact ⟨fun h => by simpa [sput] using h0 (by simpa [did] using h), fun h => by simpa [sput] using h1 (by simpa [did] using h), fun h => by simpa [sput] using h2 (by simpa [did] using h), fun h => by simpa [sput] using h3 (by simpa [did] using h), fun h => by simpa [sput] using h4 (by simpa [did] using h), fun h => by simpa [sput] using h5 (by simpa [did] using h), fun h => by simpa [sput] using h6 (by simpa [did] using h), fun h => by simpa [sput] using h7 (by simpa [did] using h), fun _ => by simp [sput], fun h => by simpa [sput] using h9 (by simpa [did] using h), fun h => by simpa [sput] using h10 (by simpa [did] using h), fun h => by simpa [sput] using h11 (by simpa [did] using h), fun h => by simpa [sput] using h12 (by simpa [did] using h), fun h => by simpa [sput] using h13 (by simpa [did] using h), fun h => by simpa [sput] using h14 (by simpa [did] using h), fun h => by simpa [sput] using h15 (by simpa [did] using h), fun h => by simpa [sput] using h16 (by simpa [did] using h), fun h => by simpa [sput] using h17 (by simpa [did] using h), fun h => by simpa [sput] using h18 (by simpa [did] using h), fun h => by simpa [sput] using h19 (by simpa [did] using h), hT⟩
        · have fz8 := h8 (by simp [hdep])
          unfold OpSteps
          simp [go_sem, evS, fz8]
          exact ⟨fun h => by simpa [sput] using h0 (by simpa [did] using h), fun h => by simpa [sput] using h1 (by simpa [did] using h), fun h => by simpa [sput] using h2 (by simpa [did] using h), fun h => by simpa [sput] using h3 (by simpa [did] using h), fun h => by simpa [sput] using h4 (by simpa [did] using h), fun h => by simpa [sput] using h5 (by simpa [did] using h), fun h => by simpa [sput] using h6 (by simpa [did] using h), fun h => by simpa [sput] using h7 (by simpa [did] using h), fun h => by simpa [sput] using h8 (by simpa [did] using h), fun _ => by simp [sput], fun h => by simpa [sput] using h10 (by simpa [did] using h), fun h => by simpa [sput] using h11 (by simpa [did] using h), fun h => by simpa [sput] using h12 (by simpa [did] using h), fun h => by simpa [sput] using h13 (by simpa [did] using h), fun h => by simpa [sput] using h14 (by simpa [did] using h), fun h => by simpa [sput] using h15 (by simpa [did] using h), fun h => by simpa [sput] using h16 (by simpa [did] using h), fun h => by simpa [sput] using h17 (by simpa [did] using h), fun h => by simpa [sput] using h18 (by simpa [did] using h), fun h => by simpa [sput] using h19 (by simpa [did] using h), hT⟩
        · have fz6 := h6 (by simp [hdep])
          have fz9 := h9 (by simp [hdep])
          unfold OpSteps
          simp [go_sem, evS, fz6, fz9, hw1]
          exact ⟨fun h => by simpa [sput] using h0 (by simpa [did] using h), fun h => by simpa [sput] using h1 (by simpa [did] using h), fun h => by simpa [sput] using h2 (by simpa [did] using h), fun h => by simpa [sput] using h3 (by simpa [did] using h), fun h => by simpa [sput] using h4 (by simpa [did] using h), fun h => by simpa [sput] using h5 (by simpa [did] using h), fun h => by simpa [sput] using h6 (by simpa [did] using h), fun h => by simpa [sput] using h7 (by simpa [did] using h), fun h => by simpa [sput] using h8 (by simpa [did] using h), fun h => by simpa [sput] using h9 (by simpa [did] using h), fun _ => by simp [sput], fun h => by simpa [sput] using h11 (by simpa [did] using h), fun h => by simpa [sput] using h12 (by simpa [did] using h), fun h => by simpa [sput] using h13 (by simpa [did] using h), fun h => by simpa [sput] using h14 (by simpa [did] using h), fun h => by simpa [sput] using h15 (by simpa [did] using h), fun h => by simpa [sput] using h16 (by simpa [did] using h), fun h => by simpa [sput] using h17 (by simpa [did] using h), fun h => by simpa [sput] using h18 (by simpa [did] using h), fun h => by simpa [sput] using h19 (by simpa [did] using h), hT⟩
        · unfold OpSteps
          simp [go_sem, evS, f3]
          exact ⟨fun h => by simpa [sput] using h0 (by simpa [did] using h), fun h => by simpa [sput] using h1 (by simpa [did] using h), fun h => by simpa [sput] using h2 (by simpa [did] using h), fun h => by simpa [sput] using h3 (by simpa [did] using h), fun h => by simpa [sput] using h4 (by simpa [did] using h), fun h => by simpa [sput] using h5 (by simpa [did] using h), fun h => by simpa [sput] using h6 (by simpa [did] using h), fun h => by simpa [sput] using h7 (by simpa [did] using h), fun h => by simpa [sput] using h8 (by simpa [did] using h), fun h => by simpa [sput] using h9 (by simpa [did] using h), fun h => by simpa [sput] using h10 (by simpa [did] using h), fun _ => by simp [sput], fun h => by simpa [sput] using h12 (by simpa [did] using h), fun h => by simpa [sput] using h13 (by simpa [did] using h), fun h => by simpa [sput] using h14 (by simpa [did] using h), fun h => by simpa [sput] using h15 (by simpa [did] using h), fun h => by simpa [sput] using h16 (by simpa [did] using h), fun h => by simpa [sput] using h17 (by simpa [did] using h), fun h => by simpa [sput] using h18 (by simpa [did] using h), fun h => by simpa [sput] using h19 (by simpa [did] using h), hT⟩
        · have fz11 := h11 (by simp [hdep])
          unfold OpSteps
          obtain ⟨p0, p1, p2⟩ := cells3 (HY.out.below hT HY.out.lt)
          simp [go_sem, evS, fz11, p0, p1, p2]
          exact ⟨fun h => by simpa [sput] using h0 (by simpa [did] using h), fun h => by simpa [sput] using h1 (by simpa [did] using h), fun h => by simpa [sput] using h2 (by simpa [did] using h), fun h => by simpa [sput] using h3 (by simpa [did] using h), fun h => by simpa [sput] using h4 (by simpa [did] using h), fun h => by simpa [sput] using h5 (by simpa [did] using h), fun h => by simpa [sput] using h6 (by simpa [did] using h), fun h => by simpa [sput] using h7 (by simpa [did] using h), fun h => by simpa [sput] using h8 (by simpa [did] using h), fun h => by simpa [sput] using h9 (by simpa [did] using h), fun h => by simpa [sput] using h10 (by simpa [did] using h), fun h => by simpa [sput] using h11 (by simpa [did] using h), fun _ => by simp [sput], fun h => by simpa [sput] using h13 (by simpa [did] using h), fun h => by simpa [sput] using h14 (by simpa [did] using h), fun h => by simpa [sput] using h15 (by simpa [did] using h), fun h => by simpa [sput] using h16 (by simpa [did] using h), fun h => by simpa [sput] using h17 (by simpa [did] using h), fun h => by simpa [sput] using h18 (by simpa [did] using h), fun h => by simpa [sput] using h19 (by simpa [did] using h), hT⟩
        · unfold OpSteps
          simp [go_sem, evS, f3]
          exact ⟨fun h => by simpa [sput] using h0 (by simpa [did] using h), fun h => by simpa [sput] using h1 (by simpa [did] using h), fun h => by simpa [sput] using h2 (by simpa [did] using h), fun h => by simpa [sput] using h3 (by simpa [did] using h), fun h => by simpa [sput] using h4 (by simpa [did] using h), fun h => by simpa [sput] using h5 (by simpa [did] using h), fun h => by simpa [sput] using h6 (by simpa [did] using h), fun h => by simpa [sput] using h7 (by simpa [did] using h), fun h => by simpa [sput] using h8 (by simpa [did] using h), fun h => by simpa [sput] using h9 (by simpa [did] using h), fun h => by simpa [sput] using h10 (by simpa [did] using h), fun h => by simpa [sput] using h11 (by simpa [did] using h), fun h => by simpa [sput] using h12 (by simpa [did] using h), fun _ => by simp [sput], fun h => by simpa [sput] using h14 (by simpa [did] using h), fun h => by simpa [sput] using h15 (by simpa [did] using h), fun h => by simpa [sput] using h16 (by simpa [did] using h), fun h => by simpa [sput] using h17 (by simpa [did] using h), fun h => by simpa [sput] using h18 (by simpa [did] using h), fun h => by simpa [sput] using h19 (by simpa [did] using h), hT⟩
        · have fz13 := h13 (by simp [hdep])
          unfold OpSteps
          obtain ⟨p0, p1, p2⟩ := cells3 (HY.out.below hT HY.out.lt)
          simp [go_sem, evS, fz13, p0, p1, p2]
          exact ⟨fun h => by simpa [sput] using h0 (by simpa [did] using h), fun h => by simpa [sput] using h1 (by simpa [did] using h), fun h => by simpa [sput] using h2 (by simpa [did] using h), fun h => by simpa [sput] using h3 (by simpa [did] using h), fun h => by simpa [sput] using h4 (by simpa [did] using h), fun h => by simpa [sput] using h5 (by simpa [did] using h), fun h => by simpa [sput] using h6 (by simpa [did] using h), fun h => by simpa [sput] using h7 (by simpa [did] using h), fun h => by simpa [sput] using h8 (by simpa [did] using h), fun h => by simpa [sput] using h9 (by simpa [did] using h), fun h => by simpa [sput] using h10 (by simpa [did] using h), fun h => by simpa [sput] using h11 (by simpa [did] using h), fun h => by simpa [sput] using h12 (by simpa [did] using h), fun h => by simpa [sput] using h13 (by simpa [did] using h), fun _ => by simp [sput], fun h => by simpa [sput] using h15 (by simpa [did] using h), fun h => by simpa [sput] using h16 (by simpa [did] using h), fun h => by simpa [sput] using h17 (by simpa [did] using h), fun h => by simpa [sput] using h18 (by simpa [did] using h), fun h => by simpa [sput] using h19 (by simpa [did] using h), hT⟩
        · have fz14 := h14 (by simp [hdep])
          unfold OpSteps
          simp [go_sem, evS, fz14]
          exact ⟨fun h => by simpa [sput] using h0 (by simpa [did] using h), fun h => by simpa [sput] using h1 (by simpa [did] using h), fun h => by simpa [sput] using h2 (by simpa [did] using h), fun h => by simpa [sput] using h3 (by simpa [did] using h), fun h => by simpa [sput] using h4 (by simpa [did] using h), fun h => by simpa [sput] using h5 (by simpa [did] using h), fun h => by simpa [sput] using h6 (by simpa [did] using h), fun h => by simpa [sput] using h7 (by simpa [did] using h), fun h => by simpa [sput] using h8 (by simpa [did] using h), fun h => by simpa [sput] using h9 (by simpa [did] using h), fun h => by simpa [sput] using h10 (by simpa [did] using h), fun h => by simpa [sput] using h11 (by simpa [did] using h), fun h => by simpa [sput] using h12 (by simpa [did] using h), fun h => by simpa [sput] using h13 (by simpa [did] using h), fun h => by simpa [sput] using h14 (by simpa [did] using h), fun _ => by simp [sput], fun h => by simpa [sput] using h16 (by simpa [did] using h), fun h => by simpa [sput] using h17 (by simpa [did] using h), fun h => by simpa [sput] using h18 (by simpa [did] using h), fun h => by simpa [sput] using h19 (by simpa [did] using h), hT⟩
        · have fz12 := h12 (by simp [hdep])
          have fz15 := h15 (by simp [hdep])
          unfold OpSteps
          simp [go_sem, evS, fz12, fz15, hw2]
          exact ⟨fun h => by simpa [sput] using h0 (by simpa [did] using h), fun h => by simpa [sput] using h1 (by simpa [did] using h), fun h => by simpa [sput] using h2 (by simpa [did] using h), fun h => by simpa [sput] using h3 (by simpa [did] using h), fun h => by simpa [sput] using h4 (by simpa [did] using h), fun h => by simpa [sput] using h5 (by simpa [did] using h), fun h => by simpa [sput] using h6 (by simpa [did] using h), fun h => by simpa [sput] using h7 (by simpa [did] using h), fun h => by simpa [sput] using h8 (by simpa [did] using h), fun h => by simpa [sput] using h9 (by simpa [did] using h), fun h => by simpa [sput] using h10 (by simpa [did] using h), fun h => by simpa [sput] using h11 (by simpa [did] using h), fun h => by simpa [sput] using h12 (by simpa [did] using h), fun h => by simpa [sput] using h13 (by simpa [did] using h), fun h => by simpa [sput] using h14 (by simpa [did] using h), fun h => by simpa [sput] using h15 (by simpa [did] using h), fun _ => by simp [sput], fun h => by simpa [sput] using h17 (by simpa [did] using h), fun h => by simpa [sput] using h18 (by simpa [did] using h), fun h => by simpa [sput] using h19 (by simpa [did] using h), hT⟩
        · have fz10 := h10 (by simp [hdep])
          have fz16 := h16 (by simp [hdep])
          unfold OpSteps
          simp [go_sem, evS, fz10, fz16, hrx]
          exact ⟨fun h => by simpa [sput] using h0 (by simpa [did] using h), fun h => by simpa [sput] using h1 (by simpa [did] using h), fun h => by simpa [sput] using h2 (by simpa [did] using h), fun h => by simpa [sput] using h3 (by simpa [did] using h), fun h => by simpa [sput] using h4 (by simpa [did] using h), fun h => by simpa [sput] using h5 (by simpa [did] using h), fun h => by simpa [sput] using h6 (by simpa [did] using h), fun h => by simpa [sput] using h7 (by simpa [did] using h), fun h => by simpa [sput] using h8 (by simpa [did] using h), fun h => by simpa [sput] using h9 (by simpa [did] using h), fun h => by simpa [sput] using h10 (by simpa [did] using h), fun h => by simpa [sput] using h11 (by simpa [did] using h), fun h => by simpa [sput] using h12 (by simpa [did] using h), fun h => by simpa [sput] using h13 (by simpa [did] using h), fun h => by simpa [sput] using h14 (by simpa [did] using h), fun h => by simpa [sput] using h15 (by simpa [did] using h), fun h => by simpa [sput] using h16 (by simpa [did] using h), fun _ => by simp [sput], fun h => by simpa [sput] using h18 (by simpa [did] using h), fun h => by simpa [sput] using h19 (by simpa [did] using h), hT⟩
        · have fz4 := h4 (by simp [hdep])
          unfold OpSteps
          simp [go_sem, evS, fz4]
          exact ⟨fun h => by simpa [sput] using h0 (by simpa [did] using h), fun h => by simpa [sput] using h1 (by simpa [did] using h), fun h => by simpa [sput] using h2 (by simpa [did] using h), fun h => by simpa [sput] using h3 (by simpa [did] using h), fun h => by simpa [sput] using h4 (by simpa [did] using h), fun h => by simpa [sput] using h5 (by simpa [did] using h), fun h => by simpa [sput] using h6 (by simpa [did] using h), fun h => by simpa [sput] using h7 (by simpa [did] using h), fun h => by simpa [sput] using h8 (by simpa [did] using h), fun h => by simpa [sput] using h9 (by simpa [did] using h), fun h => by simpa [sput] using h10 (by simpa [did] using h), fun h => by simpa [sput] using h11 (by simpa [did] using h), fun h => by simpa [sput] using h12 (by simpa [did] using h), fun h => by simpa [sput] using h13 (by simpa [did] using h), fun h => by simpa [sput] using h14 (by simpa [did] using h), fun h => by simpa [sput] using h15 (by simpa [did] using h), fun h => by simpa [sput] using h16 (by simpa [did] using h), fun h => by simpa [sput] using h17 (by simpa [did] using h), fun _ => by simp [sput], fun h => by simpa [sput] using h19 (by simpa [did] using h), hT⟩
        · have fz17 := h17 (by simp [hdep])
          unfold OpSteps
          simp [go_sem, evS, fz17]
          exact ⟨fun h => by simpa [sput] using h0 (by simpa [did] using h), fun h => by simpa [sput] using h1 (by simpa [did] using h), fun h => by simpa [sput] using h2 (by simpa [did] using h), fun h => by simpa [sput] using h3 (by simpa [did] using h), fun h => by simpa [sput] using h4 (by simpa [did] using h), fun h => by simpa [sput] using h5 (by simpa [did] using h), fun h => by simpa [sput] using h6 (by simpa [did] using h), fun h => by simpa [sput] using h7 (by simpa [did] using h), fun h => by simpa [sput] using h8 (by simpa [did] using h), fun h => by simpa [sput] using h9 (by simpa [did] using h), fun h => by simpa [sput] using h10 (by simpa [did] using h), fun h => by simpa [sput] using h11 (by simpa [did] using h), fun h => by simpa [sput] using h12 (by simpa [did] using h), fun h => by simpa [sput] using h13 (by simpa [did] using h), fun h => by simpa [sput] using h14 (by simpa [did] using h), fun h => by simpa [sput] using h15 (by simpa [did] using h), fun h => by simpa [sput] using h16 (by simpa [did] using h), fun h => by simpa [sput] using h17 (by simpa [did] using h), fun h => by simpa [sput] using h18 (by simpa [did] using h), fun _ => by simp [sput], hT⟩
      intro d s W hJ hd
      obtain ⟨h0, h1, h2, h3, h4, h5, h6, h7, h8, h9, h10, h11, h12, h13, h14, h15, h16, h17, h18, h19, hT⟩ := hJ
      have hs4 := h18 (hd 18 (by decide))
      have hs5 := h19 (hd 19 (by decide))
      have HBe := Lib.hid (below_nx HBl.out hT)
      clear h0 h1 h2 h3 h4 h5 h6 h7 h8 h9 h10 h11 h12 h13 h14 h15 h16 h17 h18 h19 hT hd
      simp [setAll, hs4, hs5]
      clear hs4 hs5
      go_wp2_with fail
      go_ret2
      exact ⟨rfl, HBe.out⟩

set_option maxRecDepth 100000 in
set_option maxHeartbeats 4000000 in
theorem rsize_any (neg : Bool) (A : Option Addr) (n c : Nat) (l : List Nat) (E : Int) (neg' : Bool) (A' : Option Addr) (n' c' : Nat) (l' : List Nat) (E' : Int) (w : World) (h : Rd w A n c l) (h' : Rd w A' n' c' l') (hn : n ≤ 137438953472) (hn' : n' ≤ 137438953472) (hE : E.natAbs ≤ 137438953472) (hE' : E'.natAbs ≤ 137438953472)
    (fr tz : Int) (N : Nat) (hf : endsF n E n' E' = (fr, tz)) (hN : fr + N = tz) (r : Int) (hr : r = if dsum l E fr N < dsum l' E' fr N then -1 else if dsum l E fr N = dsum l' E' fr N then 0 else 1) :
    Calls Try.prog 51 #[.agg #[.bool neg, .slice A n c, .int .i64 E], .agg #[.bool neg', .slice A' n' c', .int .i64 E']] w fun e w' => e = .returned (.int .i64 r) ∧ Below w.heap.size w w' := by
  have hfb : fr.natAbs ≤ 1099511627775 ∧ tz.natAbs ≤ 1099511627775 := by
    unfold endsF at hf
    split at hf
    · injection hf with e1 e2; omega
    · split at hf
      · injection hf with e1 e2; omega
      · injection hf with e1 e2; omega
  have HEn := Lib.hid (fun W => rends_any neg A n c E neg' A' n' c' E' W (by omega) (by omega) (by omega) (by omega) fr tz hf)
  have HAt := Lib.hid (fun W (hb : Below w.heap.size w W) p (hp : p.natAbs ≤ 1099511627776) => rdat_any neg A n c l E p W (h.below hb) (by omega) (by omega) hp)
  have HAt' := Lib.hid (fun W (hb : Below w.heap.size w W) p (hp : p.natAbs ≤ 1099511627776) => rdat_any neg' A' n' c' l' E' p W (h'.below hb) (by omega) (by omega) hp)
  have HS := Lib.hid (And.intro h.2.2.2.1 h'.2.2.2.1)
  have HR := Lib.hid hr
  have hw0 : wrap64 (tz - 1) = tz - 1 := wrap64_in (by omega)
  have HFb := Lib.hid hfb
  have HNn := Lib.hid hN
  have HX := Lib.hid ((Blk.new w 34 #[.bool neg, .slice A n c, .int .i64 E]).alloc (.cells #[.bool neg', .slice A' n' c', .int .i64 E'] 34))
  have HY := Lib.hid (Blk.new_ (w.alloc (.cells #[.bool neg, .slice A n c, .int .i64 E] 34)) 34 #[.bool neg', .slice A' n' c', .int .i64 E'] (w.heap.size + 1) (by simp))
  have HBl := Lib.hid (((Below.refl w.heap.size w).alloc (Nat.le_refl _) (.cells #[.bool neg, .slice A n c, .int .i64 E] 34)).alloc (by simp) (.cells #[.bool neg', .slice A' n' c', .int .i64 E'] 34))
  clear h h' hn hn' hE hE' hf hr hfb
  go_enter Try.func51, Try.ntmps51
  obtain ⟨a0, a1, a2⟩ := cells3 HX.out
  obtain ⟨b0, b1, b2⟩ := cells3 HY.out
  go_wp2_with fail
  refine (HEn.out _).mono ?_
  rintro e w1 ⟨rfl, hb⟩
  have HX1 := Lib.hid (HX.out.next hb)
  have HY1 := Lib.hid (HY.out.next hb)
  have HB1 := Lib.hid (below_nx HBl.out hb)
  clear hb a0 a1 a2 b0 b1 b2
  go_wp2_with fail
  have HW0 := Lib.hid hw0
  clear hw0 hN
  go_loopw [7] (fun i wr => ∃ k : Nat, k ≤ N ∧ i = .int .i64 (fr + (k : Int) - 1) ∧ Hid ((∀ j : Nat, k ≤ j → j < N → dat l E (fr + j) = dat l' E' (fr + j)) ∧ Below w.heap.size w wr ∧ Blk wr w.heap.size 34 #[.bool neg, .slice A n c, .int .i64 E] ∧ Blk wr (w.heap.size + 1) 34 #[.bool neg', .slice A' n' c', .int .i64 E'])) (fun i _ => ((intOf i) - fr + 1).toNat)
  case atStart => exact ⟨N, Nat.le_refl _, by rw [HNn.out, HW0.out], Lib.hid ⟨fun j h1 h2 => by omega, HB1.out, HX1.out, HY1.out⟩⟩
  case round =>
    obtain ⟨k, hk, rfl, HH⟩ := hrel
    have HXr := Lib.hid HH.out.2.2.1
    have HYr := Lib.hid HH.out.2.2.2
    have HBr := Lib.hid HH.out.2.1
    cases k with
    | zero =>
      have hge : decide (fr ≤ fr + ((0 : Nat) : Int) - 1) = false := by simp; omega
      have HE := Lib.hid (show (0 : Int) = r by
        rw [HR.out, dsum_eq (l := l) (l' := l') (E := E) (E' := E') (fr := fr) N (fun j hj => HH.out.1 j (Nat.zero_le _) hj)]
        simp)
      go_wp2_with fail
      go_ret
      exact ⟨by rw [← HE.out]; rfl, HBr.out⟩
    | succ k =>
      obtain ⟨P, hP⟩ : ∃ P, fr + (k : Int) = P := ⟨_, rfl⟩
      have hP2 : fr + ((k + 1 : Nat) : Int) - 1 = P := by omega
      rw [hP2]
      have HPP := Lib.hid hP
      have HPb := Lib.hid (show P.natAbs ≤ 1099511627776 by have := HFb.out; have := HNn.out; omega)
      have hge : decide (fr ≤ P) = true := by simp; omega
      have hw1 : wrap64 (P - 1) = P - 1 := wrap64_in (by have := HPb.out; omega)
      obtain ⟨x, hx⟩ : ∃ x, dat l E P = x := ⟨_, rfl⟩
      obtain ⟨y, hy⟩ : ∃ y, dat l' E' P = y := ⟨_, rfl⟩
      have HAtP := Lib.hid (fun W (hb : Below w.heap.size w W) => HAt.out W hb P HPb.out)
      have HAtP' := Lib.hid (fun W (hb : Below w.heap.size w W) => HAt'.out W hb P HPb.out)
      rw [hx] at HAtP
      rw [hy] at HAtP'
      have HXY := Lib.hid (And.intro hx hy)
      clear hx hy hP hP2
      obtain ⟨a0, a1, a2⟩ := cells3 HXr.out
      obtain ⟨b0, b1, b2⟩ := cells3 HYr.out
      by_cases hxy : x = y
      · have hne : ((x : Int) == (y : Int)) = true := by simp [hxy]
        have hne2 : ((x : Int) != (y : Int)) = false := by simp [hxy]
        have HEq := Lib.hid hxy
        clear hxy
        go_wp2_with fail
        refine wp_region_inv [21, 22, 23, 24, 25, 26, 27] (fun d s W => (d 0 = true → s 21 = .agg #[.bool neg, .slice A n c, .int .i64 E]) ∧ (d 1 = true → s 22 = .int .i64 P) ∧ (d 2 = true → s 23 = .int .i64 (x : Int)) ∧ (d 3 = true → s 24 = .agg #[.bool neg', .slice A' n' c', .int .i64 E']) ∧ (d 4 = true → s 25 = .int .i64 P) ∧ (d 5 = true → s 26 = .int .i64 (y : Int)) ∧ (d 6 = true → s 27 = .bool false) ∧ Below wr.heap.size wr W)
          rfl (by kernel_rfl) ?_ ?_ ?_
        · exact ⟨by simp, by simp, by simp, by simp, by simp, by simp, by simp, (Below.refl _ _).drew⟩
        · refine ⟨?_, ?_, ?_, ?_, ?_, ?_, ?_, trivial⟩
          all_goals
            intro d s W hJ hfr hd hdep
            simp only [List.mem_cons, forall_eq_or_imp, List.not_mem_nil, false_implies, implies_true, and_true, Region.binds] at hdep
            have f2 := hfr 2 (by decide)
            have f3 := hfr 3 (by decide)
            have f7 := hfr 7 (by decide)
            simp at f2 f3 f7 hdep
            obtain ⟨h0, h1, h2, h3, h4, h5, h6, hT⟩ := hJ
          · unfold OpSteps
            obtain ⟨p0, p1, p2⟩ := cells3 (HXr.out.below hT HXr.out.lt)
            simp [go_sem, evS, f2, p0, p1, p2]
            exact ⟨fun _ => by simp [sput], fun h => by simpa [sput] using h1 (by simpa [did] using h), fun h => by simpa [sput] using h2 (by simpa [did] using h), fun h => by simpa [sput] using h3 (by simpa [did] using h), fun h => by simpa [sput] using h4 (by simpa [did] using h), fun h => by simpa [sput] using h5 (by simpa [did] using h), fun h => by simpa [sput] using h6 (by simpa [did] using h), hT⟩
          · unfold OpSteps
            simp [go_sem, evS, f7]
            exact ⟨fun h => by simpa [sput] using h0 (by simpa [did] using h), fun _ => by simp [sput], fun h => by simpa [sput] using h2 (by simpa [did] using h), fun h => by simpa [sput] using h3 (by simpa [did] using h), fun h => by simpa [sput] using h4 (by simpa [did] using h), fun h => by simpa [sput] using h5 (by simpa [did] using h), fun h => by simpa [sput] using h6 (by simpa [did] using h), hT⟩
          · have fz0 := h0 (by simp [hdep])
            have fz1 := h1 (by simp [hdep])
            unfold OpSteps
            simp [go_sem, evS, fz0, fz1]
            refine (HAtP.out W (below_nx HBr.out hT)).mono ?_
            rintro e W' ⟨rfl, hb⟩
            refine ⟨_, rfl, ?_⟩
            exact ⟨fun h => by simpa [sput] using h0 (by simpa [did] using h), fun h => by simpa [sput] using h1 (by simpa [did] using h), fun _ => by simp [sput], fun h => by simpa [sput] using h3 (by simpa [did] using h), fun h => by simpa [sput] using h4 (by simpa [did] using h), fun h => by simpa [sput] using h5 (by simpa [did] using h), fun h => by simpa [sput] using h6 (by simpa [did] using h), below_nx hT hb⟩
          · unfold OpSteps
            obtain ⟨p0, p1, p2⟩ := cells3 (HYr.out.below hT HYr.out.lt)
            simp [go_sem, evS, f3, p0, p1, p2]
            exact ⟨fun h => by simpa [sput] using h0 (by simpa [did] using h), fun h => by simpa [sput] using h1 (by simpa [did] using h), fun h => by simpa [sput] using h2 (by simpa [did] using h), fun _ => by simp [sput], fun h => by simpa [sput] using h4 (by simpa [did] using h), fun h => by simpa [sput] using h5 (by simpa [did] using h), fun h => by simpa [sput] using h6 (by simpa [did] using h), hT⟩
          · unfold OpSteps
            simp [go_sem, evS, f7]
            exact ⟨fun h => by simpa [sput] using h0 (by simpa [did] using h), fun h => by simpa [sput] using h1 (by simpa [did] using h), fun h => by simpa [sput] using h2 (by simpa [did] using h), fun h => by simpa [sput] using h3 (by simpa [did] using h), fun _ => by simp [sput], fun h => by simpa [sput] using h5 (by simpa [did] using h), fun h => by simpa [sput] using h6 (by simpa [did] using h), hT⟩
          · have fz3 := h3 (by simp [hdep])
            have fz4 := h4 (by simp [hdep])
            unfold OpSteps
            simp [go_sem, evS, fz3, fz4]
            refine (HAtP'.out W (below_nx HBr.out hT)).mono ?_
            rintro e W' ⟨rfl, hb⟩
            refine ⟨_, rfl, ?_⟩
            exact ⟨fun h => by simpa [sput] using h0 (by simpa [did] using h), fun h => by simpa [sput] using h1 (by simpa [did] using h), fun h => by simpa [sput] using h2 (by simpa [did] using h), fun h => by simpa [sput] using h3 (by simpa [did] using h), fun h => by simpa [sput] using h4 (by simpa [did] using h), fun _ => by simp [sput], fun h => by simpa [sput] using h6 (by simpa [did] using h), below_nx hT hb⟩
          · have fz2 := h2 (by simp [hdep])
            have fz5 := h5 (by simp [hdep])
            unfold OpSteps
            simp [go_sem, evS, fz2, fz5, hne, hne2]
            exact ⟨fun h => by simpa [sput] using h0 (by simpa [did] using h), fun h => by simpa [sput] using h1 (by simpa [did] using h), fun h => by simpa [sput] using h2 (by simpa [did] using h), fun h => by simpa [sput] using h3 (by simpa [did] using h), fun h => by simpa [sput] using h4 (by simpa [did] using h), fun h => by simpa [sput] using h5 (by simpa [did] using h), fun _ => by simp [sput], hT⟩
        intro d s W hJ hd
        obtain ⟨h0, h1, h2, h3, h4, h5, h6, hT⟩ := hJ
        have hs27 := h6 (hd 6 (by decide))
        have hb : Below wr.heap.size wr W := hT
        clear h0 h1 h2 h3 h4 h5 h6 hT hd
        simp [setAll, hs27]
        clear hs27
        generalize s 21 = s21
        generalize s 22 = s22
        generalize s 23 = s23
        generalize s 24 = s24
        generalize s 25 = s25
        generalize s 26 = s26
        have HXn := Lib.hid (HXr.out.next hb)
        have HYn := Lib.hid (HYr.out.next hb)
        have HBn := Lib.hid (below_nx HBr.out hb)
        clear hb a0 a1 a2 b0 b1 b2
        generalize W = wn at *
        clear hne hne2
        go_wp2_with fail
        go_roundw
        case rel =>
          refine ⟨k, by omega, by rw [HPP.out, hw1], Lib.hid ⟨fun j h1 h2 => ?_, HBn.out, HXn.out, HYn.out⟩⟩
          by_cases e : j = k
          · subst e
            rw [HPP.out, HXY.out.1, HXY.out.2]; exact HEq.out
          · exact HH.out.1 j (by omega) h2
        case measure => have := HPP.out; simp [intOf]; omega
      · have hne : ((x : Int) == (y : Int)) = false := by simp; omega
        have hne2 : ((x : Int) != (y : Int)) = true := by simp; omega
        have HNe := Lib.hid hxy
        clear hxy
        go_wp2_with fail
        refine wp_region_inv [21, 22, 23, 24, 25, 26, 27] (fun d s W => (d 0 = true → s 21 = .agg #[.bool neg, .slice A n c, .int .i64 E]) ∧ (d 1 = true → s 22 = .int .i64 P) ∧ (d 2 = true → s 23 = .int .i64 (x : Int)) ∧ (d 3 = true → s 24 = .agg #[.bool neg', .slice A' n' c', .int .i64 E']) ∧ (d 4 = true → s 25 = .int .i64 P) ∧ (d 5 = true → s 26 = .int .i64 (y : Int)) ∧ (d 6 = true → s 27 = .bool true) ∧ Below wr.heap.size wr W)
          rfl (by kernel_rfl) ?_ ?_ ?_
        · exact ⟨by simp, by simp, by simp, by simp, by simp, by simp, by simp, (Below.refl _ _).drew⟩
        · refine ⟨?_, ?_, ?_, ?_, ?_, ?_, ?_, trivial⟩
          all_goals
            intro d s W hJ hfr hd hdep
            simp only [List.mem_cons, forall_eq_or_imp, List.not_mem_nil, false_implies, implies_true, and_true, Region.binds] at hdep
            have f2 := hfr 2 (by decide)
            have f3 := hfr 3 (by decide)
            have f7 := hfr 7 (by decide)
            simp at f2 f3 f7 hdep
            obtain ⟨h0, h1, h2, h3, h4, h5, h6, hT⟩ := hJ
          · unfold OpSteps
            obtain ⟨p0, p1, p2⟩ := cells3 (HXr.out.below hT HXr.out.lt)
            simp [go_sem, evS, f2, p0, p1, p2]
            exact ⟨fun _ => by simp [sput], fun h => by simpa [sput] using h1 (by simpa [did] using h), fun h => by simpa [sput] using h2 (by simpa [did] using h), fun h => by simpa [sput] using h3 (by simpa [did] using h), fun h => by simpa [sput] using h4 (by simpa [did] using h), fun h => by simpa [sput] using h5 (by simpa [did] using h), fun h => by simpa [sput] using h6 (by simpa [did] using h), hT⟩
          · unfold OpSteps
            simp [go_sem, evS, f7]
            exact ⟨fun h => by simpa [sput] using h0 (by simpa [did] using h), fun _ => by simp [sput], fun h => by simpa [sput] using h2 (by simpa [did] using h), fun h => by simpa [sput] using h3 (by simpa [did] using h), fun h => by simpa [sput] using h4 (by simpa [did] using h), fun h => by simpa [sput] using h5 (by simpa [did] using h), fun h => by simpa [sput] using h6 (by simpa [did] using h), hT⟩
          · have fz0 := h0 (by simp [hdep])
            have fz1 := h1 (by simp [hdep])
            unfold OpSteps
            simp [go_sem, evS, fz0, fz1]
            refine (HAtP.out W (below_nx HBr.out hT)).mono ?_
            rintro e W' ⟨rfl, hb⟩
            refine ⟨_, rfl, ?_⟩
            exact ⟨fun h => by simpa [sput] using h0 (by simpa [did] using h), fun h => by simpa [sput] using h1 (by simpa [did] using h), fun _ => by simp [sput], fun h => by simpa [sput] using h3 (by simpa [did] using h), fun h => by simpa [sput] using h4 (by simpa [did] using h), fun h => by simpa [sput] using h5 (by simpa [did] using h), fun h => by simpa [sput] using h6 (by simpa [did] using h), below_nx hT hb⟩
          · unfold OpSteps
            obtain ⟨p0, p1, p2⟩ := cells3 (HYr.out.below hT HYr.out.lt)
            simp [go_sem, evS, f3, p0, p1, p2]
            exact ⟨fun h => by simpa [sput] using h0 (by simpa [did] using h), fun h => by simpa [sput] using h1 (by simpa [did] using h), fun h => by simpa [sput] using h2 (by simpa [did] using h), fun _ => by simp [sput], fun h => by simpa [sput] using h4 (by simpa [did] using h), fun h => by simpa [sput] using h5 (by simpa [did] using h), fun h => by simpa [sput] using h6 (by simpa [did] using h), hT⟩
          · unfold OpSteps
            simp [go_sem, evS, f7]
            exact ⟨fun h => by simpa [sput] using h0 (by simpa [did] using h), fun h => by simpa [sput] using h1 (by simpa [did] using h), fun h => by simpa [sput] using h2 (by simpa [did] using h), fun h => by simpa [sput] using h3 (by simpa [did] using h), fun _ => by simp [sput], fun h => by simpa [sput] using h5 (by simpa [did] using h), fun h => by simpa [sput] using h6 (by simpa [did] using h), hT⟩
          · have fz3 := h3 (by simp [hdep])
            have fz4 := h4 (by simp [hdep])
            unfold OpSteps
            simp [go_sem, evS, fz3, fz4]
            refine (HAtP'.out W (below_nx HBr.out hT)).mono ?_
            rintro e W' ⟨rfl, hb⟩
            refine ⟨_, rfl, ?_⟩
            exact ⟨fun h => by simpa [sput] using h0 (by simpa [did] using h), fun h => by simpa [sput] using h1 (by simpa [did] using h), fun h => by simpa [sput] using h2 (by simpa [did] using h), fun h => by simpa [sput] using h3 (by simpa [did] using h), fun h => by simpa [sput] using h4 (by simpa [did] using h), fun _ => by simp [sput], fun h => by simpa [sput] using h6 (by simpa [did] using h), below_nx hT hb⟩
          · have fz2 := h2 (by simp [hdep])
            have fz5 := h5 (by simp [hdep])
            unfold OpSteps
            simp [go_sem, evS, fz2, fz5, hne, hne2]
            exact ⟨fun h => by simpa [sput] using h0 (by simpa [did] using h), fun h => by simpa [sput] using h1 (by simpa [did] using h), fun h => by simpa [sput] using h2 (by simpa [did] using h), fun h => by simpa [sput] using h3 (by simpa [did] using h), fun h => by simpa [sput] using h4 (by simpa [did] using h), fun h => by simpa [sput] using h5 (by simpa [did] using h), fun _ => by simp [sput], hT⟩
        intro d s W hJ hd
        obtain ⟨h0, h1, h2, h3, h4, h5, h6, hT⟩ := hJ
        have hs27 := h6 (hd 6 (by decide))
        have hb : Below wr.heap.size wr W := hT
        clear h0 h1 h2 h3 h4 h5 h6 hT hd
        simp [setAll, hs27]
        clear hs27
        generalize s 21 = s21
        generalize s 22 = s22
        generalize s 23 = s23
        generalize s 24 = s24
        generalize s 25 = s25
        generalize s 26 = s26
        have HXn := Lib.hid (HXr.out.next hb)
        have HYn := Lib.hid (HYr.out.next hb)
        have HBn := Lib.hid (below_nx HBr.out hb)
        clear hb a0 a1 a2 b0 b1 b2
        generalize W = wn at *
        clear hne hne2
        have HXr := HXn
        have HYr := HYn
        have HBr := HBn
        generalize wn = wr at *
        obtain ⟨a0, a1, a2⟩ := cells3 HXr.out
        obtain ⟨b0, b1, b2⟩ := cells3 HYr.out
        by_cases hlt : x < y
        · have hlt2 : decide (x < y) = true := by simpa using hlt
          have HE := Lib.hid (show (-1 : Int) = r by
            rw [HR.out, if_pos (dsum_cmp HS.out.1 HS.out.2 E E' fr k (by rw [HPP.out, HXY.out.1, HXY.out.2]; exact hlt) N (by omega) (fun j h1 h2 => HH.out.1 j (by omega) h2))])
          clear hlt
          go_wp2_with fail
          refine wp_region_inv [28, 29, 30, 31, 32, 33, 34] (fun d s W => (d 0 = true → s 28 = .agg #[.bool neg, .slice A n c, .int .i64 E]) ∧ (d 1 = true → s 29 = .int .i64 P) ∧ (d 2 = true → s 30 = .int .i64 (x : Int)) ∧ (d 3 = true → s 31 = .agg #[.bool neg', .slice A' n' c', .int .i64 E']) ∧ (d 4 = true → s 32 = .int .i64 P) ∧ (d 5 = true → s 33 = .int .i64 (y : Int)) ∧ (d 6 = true → s 34 = .bool true) ∧ Below wr.heap.size wr W)
            rfl (by kernel_rfl) ?_ ?_ ?_
          · exact ⟨by simp, by simp, by simp, by simp, by simp, by simp, by simp, (Below.refl _ _).drew⟩
          · refine ⟨?_, ?_, ?_, ?_, ?_, ?_, ?_, trivial⟩
            all_goals
              intro d s W hJ hfr hd hdep
              simp only [List.mem_cons, forall_eq_or_imp, List.not_mem_nil, false_implies, implies_true, and_true, Region.binds] at hdep
              have f2 := hfr 2 (by decide)
              have f3 := hfr 3 (by decide)
              have f7 := hfr 7 (by decide)
              simp at f2 f3 f7 hdep
              obtain ⟨h0, h1, h2, h3, h4, h5, h6, hT⟩ := hJ
            · unfold OpSteps
              obtain ⟨p0, p1, p2⟩ := cells3 (HXr.out.below hT HXr.out.lt)
              simp [go_sem, evS, f2, p0, p1, p2]
              exact ⟨fun _ => by simp [sput], fun h => by simpa [sput] using h1 (by simpa [did] using h), fun h => by simpa [sput] using h2 (by simpa [did] using h), fun h => by simpa [sput] using h3 (by simpa [did] using h), fun h => by simpa [sput] using h4 (by simpa [did] using h), fun h => by simpa [sput] using h5 (by simpa [did] using h), fun h => by simpa [sput] using h6 (by simpa [did] using h), hT⟩
            · unfold OpSteps
              simp [go_sem, evS, f7]
              exact ⟨fun h => by simpa [sput] using h0 (by simpa [did] using h), fun _ => by simp [sput], fun h => by simpa [sput] using h2 (by simpa [did] using h), fun h => by simpa [sput] using h3 (by simpa [did] using h), fun h => by simpa [sput] using h4 (by simpa [did] using h), fun h => by simpa [sput] using h5 (by simpa [did] using h), fun h => by simpa [sput] using h6 (by simpa [did] using h), hT⟩
            · have fz0 := h0 (by simp [hdep])
              have fz1 := h1 (by simp [hdep])
              unfold OpSteps
              simp [go_sem, evS, fz0, fz1]
              refine (HAtP.out W (below_nx HBr.out hT)).mono ?_
              rintro e W' ⟨rfl, hb⟩
              refine ⟨_, rfl, ?_⟩
              exact ⟨fun h => by simpa [sput] using h0 (by simpa [did] using h), fun h => by simpa [sput] using h1 (by simpa [did] using h), fun _ => by simp [sput], fun h => by simpa [sput] using h3 (by simpa [did] using h), fun h => by simpa [sput] using h4 (by simpa [did] using h), fun h => by simpa [sput] using h5 (by simpa [did] using h), fun h => by simpa [sput] using h6 (by simpa [did] using h), below_nx hT hb⟩
            · unfold OpSteps
              obtain ⟨p0, p1, p2⟩ := cells3 (HYr.out.below hT HYr.out.lt)
              simp [go_sem, evS, f3, p0, p1, p2]
              exact ⟨fun h => by simpa [sput] using h0 (by simpa [did] using h), fun h => by simpa [sput] using h1 (by simpa [did] using h), fun h => by simpa [sput] using h2 (by simpa [did] using h), fun _ => by simp [sput], fun h => by simpa [sput] using h4 (by simpa [did] using h), fun h => by simpa [sput] using h5 (by simpa [did] using h), fun h => by simpa [sput] using h6 (by simpa [did] using h), hT⟩
            · unfold OpSteps
              simp [go_sem, evS, f7]
              exact ⟨fun h => by simpa [sput] using h0 (by simpa [did] using h), fun h => by simpa [sput] using h1 (by simpa [did] using h), fun h => by simpa [sput] using h2 (by simpa [did] using h), fun h => by simpa [sput] using h3 (by simpa [did] using h), fun _ => by simp [sput], fun h => by simpa [sput] using h5 (by simpa [did] using h), fun h => by simpa [sput] using h6 (by simpa [did] using h), hT⟩
            · have fz3 := h3 (by simp [hdep])
              have fz4 := h4 (by simp [hdep])
              unfold OpSteps
              simp [go_sem, evS, fz3, fz4]
              refine (HAtP'.out W (below_nx HBr.out hT)).mono ?_
              rintro e W' ⟨rfl, hb⟩
              refine ⟨_, rfl, ?_⟩
              exact ⟨fun h => by simpa [sput] using h0 (by simpa [did] using h), fun h => by simpa [sput] using h1 (by simpa [did] using h), fun h => by simpa [sput] using h2 (by simpa [did] using h), fun h => by simpa [sput] using h3 (by simpa [did] using h), fun h => by simpa [sput] using h4 (by simpa [did] using h), fun _ => by simp [sput], fun h => by simpa [sput] using h6 (by simpa [did] using h), below_nx hT hb⟩
            · have fz2 := h2 (by simp [hdep])
              have fz5 := h5 (by simp [hdep])
              unfold OpSteps
              simp [go_sem, evS, fz2, fz5, hlt2]
              exact ⟨fun h => by simpa [sput] using h0 (by simpa [did] using h), fun h => by simpa [sput] using h1 (by simpa [did] using h), fun h => by simpa [sput] using h2 (by simpa [did] using h), fun h => by simpa [sput] using h3 (by simpa [did] using h), fun h => by simpa [sput] using h4 (by simpa [did] using h), fun h => by simpa [sput] using h5 (by simpa [did] using h), fun _ => by simp [sput], hT⟩
          intro d s W hJ hd
          obtain ⟨h0, h1, h2, h3, h4, h5, h6, hT⟩ := hJ
          have hs34 := h6 (hd 6 (by decide))
          have hb : Below wr.heap.size wr W := hT
          clear h0 h1 h2 h3 h4 h5 h6 hT hd
          simp [setAll, hs34]
          clear hs34
          generalize s 28 = s28
          generalize s 29 = s29
          generalize s 30 = s30
          generalize s 31 = s31
          generalize s 32 = s32
          generalize s 33 = s33
          have HBe := Lib.hid (below_nx HBr.out hb)
          clear hb
          go_wp2_with fail
          go_ret
          exact ⟨by rw [← HE.out]; rfl, HBe.out⟩
        · have hlt2 : decide (x < y) = false := by simpa using hlt
          have HE := Lib.hid (show (1 : Int) = r by
            have h1 := dsum_cmp HS.out.2 HS.out.1 E' E fr k (by rw [HPP.out, HXY.out.1, HXY.out.2]; have := HNe.out; omega) N (by omega) (fun j h1 h2 => (HH.out.1 j (by omega) h2).symm)
            rw [HR.out, if_neg (by omega), if_neg (by omega)])
          clear hlt
          go_wp2_with fail
          refine wp_region_inv [28, 29, 30, 31, 32, 33, 34] (fun d s W => (d 0 = true → s 28 = .agg #[.bool neg, .slice A n c, .int .i64 E]) ∧ (d 1 = true → s 29 = .int .i64 P) ∧ (d 2 = true → s 30 = .int .i64 (x : Int)) ∧ (d 3 = true → s 31 = .agg #[.bool neg', .slice A' n' c', .int .i64 E']) ∧ (d 4 = true → s 32 = .int .i64 P) ∧ (d 5 = true → s 33 = .int .i64 (y : Int)) ∧ (d 6 = true → s 34 = .bool false) ∧ Below wr.heap.size wr W)
            rfl (by kernel_rfl) ?_ ?_ ?_
          · exact ⟨by simp, by simp, by simp, by simp, by simp, by simp, by simp, (Below.refl _ _).drew⟩
          · refine ⟨?_, ?_, ?_, ?_, ?_, ?_, ?_, trivial⟩
            all_goals
              intro d s W hJ hfr hd hdep
              simp only [List.mem_cons, forall_eq_or_imp, List.not_mem_nil, false_implies, implies_true, and_true, Region.binds] at hdep
              have f2 := hfr 2 (by decide)
              have f3 := hfr 3 (by decide)
              have f7 := hfr 7 (by decide)
              simp at f2 f3 f7 hdep
              obtain ⟨h0, h1, h2, h3, h4, h5, h6, hT⟩ := hJ
            · unfold OpSteps
              obtain ⟨p0, p1, p2⟩ := cells3 (HXr.out.below hT HXr.out.lt)
              simp [go_sem, evS, f2, p0, p1, p2]
              exact ⟨fun _ => by simp [sput], fun h => by simpa [sput] using h1 (by simpa [did] using h), fun h => by simpa [sput] using h2 (by simpa [did] using h), fun h => by simpa [sput] using h3 (by simpa [did] using h), fun h => by simpa [sput] using h4 (by simpa [did] using h), fun h => by simpa [sput] using h5 (by simpa [did] using h), fun h => by simpa [sput] using h6 (by simpa [did] using h), hT⟩
            · unfold OpSteps
              simp [go_sem, evS, f7]
              exact ⟨fun h => by simpa [sput] using h0 (by simpa [did] using h), fun _ => by simp [sput], fun h => by simpa [sput] using h2 (by simpa [did] using h), fun h => by simpa [sput] using h3 (by simpa [did] using h), fun h => by simpa [sput] using h4 (by simpa [did] using h), fun h => by simpa [sput] using h5 (by simpa [did] using h), fun h => by simpa [sput] using h6 (by simpa [did] using h), hT⟩
            · have fz0 := h0 (by simp [hdep])
              have fz1 := h1 (by simp [hdep])
              unfold OpSteps
              simp [go_sem, evS, fz0, fz1]
              refine (HAtP.out W (below_nx HBr.out hT)).mono ?_
              rintro e W' ⟨rfl, hb⟩
              refine ⟨_, rfl, ?_⟩
              exact ⟨fun h => by simpa [sput] using h0 (by simpa [did] using h), fun h => by simpa [sput] using h1 (by simpa [did] using h), fun _ => by simp [sput], fun h => by simpa [sput] using h3 (by simpa [did] using h), fun h => by simpa [sput] using h4 (by simpa [did] using h), fun h => by simpa [sput] using h5 (by simpa [did] using h), fun h => by simpa [sput] using h6 (by simpa [did] using h), below_nx hT hb⟩
            · unfold OpSteps
              obtain ⟨p0, p1, p2⟩ := cells3 (HYr.out.below hT HYr.out.lt)
              simp [go_sem, evS, f3, p0, p1, p2]
              exact ⟨fun h => by simpa [sput] using h0 (by simpa [did] using h), fun h => by simpa [sput] using h1 (by simpa [did] using h), fun h => by simpa [sput] using h2 (by simpa [did] using h), fun _ => by simp [sput], fun h => by simpa [sput] using h4 (by simpa [did] using h), fun h => by simpa [sput] using h5 (by simpa [did] using h), fun h => by simpa [sput] using h6 (by simpa [did] using h), hT⟩
            · unfold OpSteps
              simp [go_sem, evS, f7]
              exact ⟨fun h => by simpa [sput] using h0 (by simpa [did] using h), fun h => by simpa [sput] using h1 (by simpa [did] using h), fun h => by simpa [sput] using h2 (by simpa [did] using h), fun h => by simpa [sput] using h3 (by simpa [did] using h), fun _ => by simp [sput], fun h => by simpa [sput] using h5 (by simpa [did] using h), fun h => by simpa [sput] using h6 (by simpa [did] using h), hT⟩
            · have fz3 := h3 (by simp [hdep])
              have fz4 := h4 (by simp [hdep])
              unfold OpSteps
              simp [go_sem, evS, fz3, fz4]
              refine (HAtP'.out W (below_nx HBr.out hT)).mono ?_
              rintro e W' ⟨rfl, hb⟩
              refine ⟨_, rfl, ?_⟩
              exact ⟨fun h => by simpa [sput] using h0 (by simpa [did] using h), fun h => by simpa [sput] using h1 (by simpa [did] using h), fun h => by simpa [sput] using h2 (by simpa [did] using h), fun h => by simpa [sput] using h3 (by simpa [did] using h), fun h => by simpa [sput] using h4 (by simpa [did] using h), fun _ => by simp [sput], fun h => by simpa [sput] using h6 (by simpa [did] using h), below_nx hT hb⟩
            · have fz2 := h2 (by simp [hdep])
              have fz5 := h5 (by simp [hdep])
              unfold OpSteps
              simp [go_sem, evS, fz2, fz5, hlt2]
              exact ⟨fun h => by simpa [sput] using h0 (by simpa [did] using h), fun h => by simpa [sput] using h1 (by simpa [did] using h), fun h => by simpa [sput] using h2 (by simpa [did] using h), fun h => by simpa [sput] using h3 (by simpa [did] using h), fun h => by simpa [sput] using h4 (by simpa [did] using h), fun h => by simpa [sput] using h5 (by simpa [did] using h), fun _ => by simp [sput], hT⟩
          intro d s W hJ hd
          obtain ⟨h0, h1, h2, h3, h4, h5, h6, hT⟩ := hJ
          have hs34 := h6 (hd 6 (by decide))
          have hb : Below wr.heap.size wr W := hT
          clear h0 h1 h2 h3 h4 h5 h6 hT hd
          simp [setAll, hs34]
          clear hs34
          generalize s 28 = s28
          generalize s 29 = s29
          generalize s 30 = s30
          generalize s 31 = s31
          generalize s 32 = s32
          generalize s 33 = s33
          have HBe := Lib.hid (below_nx HBr.out hb)
          clear hb
          go_wp2_with fail
          go_ret
          exact ⟨by rw [← HE.out]; rfl, HBe.out⟩
end Go.Proofs.Ytjjneiidggcfdaa
set_option linter.unusedVariables false
set_option linter.unusedSimpArgs false
set_option linter.unnecessarySimpa false
namespace Go.Proofs.Ytjjneiidggcfdaa
open Go.RowKit
attribute [local go_sem ↓] Go.wp_at_zero Go.wp_at_succ

theorem ints_snoc (l : List Nat) (x : Nat) : ints (l ++ [x]) = ints l ++ [.int .i64 (x : Int)] := by simp [ints]
theorem ends_bd {n n' : Nat} {E E' fr tz : Int} (hf : endsF n E n' E' = (fr, tz)) (hn : n ≤ 536870912) (hn' : n' ≤ 536870912) (hE : E.natAbs ≤ 1073741824) (hE' : E'.natAbs ≤ 1073741824) : fr.natAbs ≤ 1073741824 ∧ tz.natAbs ≤ 1610612736 := by
  unfold endsF at hf
  by_cases h0 : n = 0
  · rw [if_pos h0] at hf
    injection hf with e1 e2; omega
  · rw [if_neg h0] at hf
    by_cases h1 : n' = 0
    · rw [if_pos h1] at hf
      injection hf with e1 e2; omega
    · rw [if_neg h1] at hf
      injection hf with e1 e2; omega
theorem carry_facts {cr x y : Nat} (hc : cr ≤ 1) (hx : x < 65536) (hy : y < 65536) : ∃ U V V1 V2 : Nat, (cr : Int) + (x : Int) = (U : Int) ∧ (U : Int) + (y : Int) = (V : Int) ∧ IntKind.i64.wrap (U : Int) = (U : Int) ∧ IntKind.i64.wrap (V : Int) = (V : Int) ∧
    (V : Int) % 65536 = (V1 : Int) ∧ (V : Int) / 65536 = (V2 : Int) ∧ (V : Int).tmod 65536 = (V1 : Int) ∧ (V : Int).tdiv 65536 = (V2 : Int) ∧ wrap64 (V2 : Int) = (V2 : Int) ∧ V2 ≤ 1 ∧ V1 < 65536 ∧ (cr + x + y) % 65536 = V1 ∧ (cr + x + y) / 65536 = V2 :=
  ⟨cr + x, cr + x + y, (cr + x + y) % 65536, (cr + x + y) / 65536, by omega, by omega, iwrap_in (by omega), iwrap_in (by omega), by omega, by omega, by rw [Int.tmod_eq_emod_of_nonneg (by omega)]; omega, by rw [Int.tdiv_eq_ediv_of_nonneg (by omega)]; omega, wrap64_in (by omega), by omega, by omega, rfl, rfl⟩
theorem add_val (p : Bool) {a b : Nat} {fr : Int} {L : List Nat} {N cr : Nat} (hl : L.length = N) (h : ofd 65536 L + 65536 ^ N * cr = a + b) : rdy p (L ++ [cr]) fr = dy (sgd p (a + b)) (16 * fr) := by
  rw [rdy_sgd, ofd_snoc, hl, h]

set_option maxRecDepth 100000 in
set_option maxHeartbeats 8000000 in
theorem radd_ff (A : Option Addr) (n c : Nat) (l : List Nat) (E : Int) (A' : Option Addr) (n' c' : Nat) (l' : List Nat) (E' : Int) (w : World) (h : Rd w A n c l) (h' : Rd w A' n' c' l') (hn : n ≤ 536870912) (hn' : n' ≤ 536870912) (hE : E.natAbs ≤ 1073741824) (hE' : E'.natAbs ≤ 1073741824)  :
    Calls Try.prog 17 #[.agg #[.bool false, .slice A n c, .int .i64 E], .agg #[.bool false, .slice A' n' c', .int .i64 E']] w (RetR (rdy false l E + rdy false l' E') w) := by
  obtain ⟨⟨fr, tz⟩, hf⟩ : ∃ ft, endsF n E n' E' = ft := ⟨_, rfl⟩
  have hfb := ends_bd hf hn hn' hE hE'
  have hends := ends_ok hf
  obtain ⟨N, hN⟩ : ∃ N : Nat, fr + N = tz := ⟨(tz - fr).toNat, by have := hends.2.2; omega⟩
  have HEn := Lib.hid (fun W => rends_any false A n c E false A' n' c' E' W (by omega) (by omega) (by omega) (by omega) fr tz hf)
  have HAt := Lib.hid (fun W (hb : Below w.heap.size w W) p (hp : p.natAbs ≤ 1099511627776) => rdat_any false A n c l E p W (h.below hb) (by omega) (by omega) hp)
  have HAt' := Lib.hid (fun W (hb : Below w.heap.size w W) p (hp : p.natAbs ≤ 1099511627776) => rdat_any false A' n' c' l' E' p W (h'.below hb) (by omega) (by omega) hp)
  have HS := Lib.hid (And.intro h.2.2.2.1 h'.2.2.2.1)
  have Hh := Lib.hid (And.intro h h')
  have HV1 := Lib.hid (show rdy false l E = dy (sgd false (dsum l E fr N)) (16 * fr) from dsum_val (by rw [← h.1]; exact hends.1) hN false)
  have HV2 := Lib.hid (show rdy false l' E' = dy (sgd false (dsum l' E' fr N)) (16 * fr) from dsum_val (by rw [← h'.1]; exact hends.2.1) hN false)
  have HFb := Lib.hid hfb
  have HNn := Lib.hid hN
  have HNb := Lib.hid (show N ≤ 4294967296 by omega)
  have HX := Lib.hid (((Blk.new w 34 #[.bool false, .slice A n c, .int .i64 E]).alloc (.cells #[.bool false, .slice A' n' c', .int .i64 E'] 34)).alloc (.cells #[.bool false, .slice none 0 0, .int .i64 0] 34))
  have HY := Lib.hid ((Blk.new_ (w.alloc (.cells #[.bool false, .slice A n c, .int .i64 E] 34)) 34 #[.bool false, .slice A' n' c', .int .i64 E'] (w.heap.size + 1) (by simp)).alloc (.cells #[.bool false, .slice none 0 0, .int .i64 0] 34))
  have HR := Lib.hid (Blk.new_ ((w.alloc (.cells #[.bool false, .slice A n c, .int .i64 E] 34)).alloc (.cells #[.bool false, .slice A' n' c', .int .i64 E'] 34)) 34 #[.bool false, .slice none 0 0, .int .i64 0] (w.heap.size + 1 + 1) (by simp))
  have HBl := Lib.hid ((((Below.refl w.heap.size w).alloc (Nat.le_refl _) (.cells #[.bool false, .slice A n c, .int .i64 E] 34)).alloc (by simp) (.cells #[.bool false, .slice A' n' c', .int .i64 E'] 34)).alloc (by simp; omega) (.cells #[.bool false, .slice none 0 0, .int .i64 0] 34))
  obtain ⟨i0, hi, hz0, hz1, hz2⟩ := info_parts info_i64
  clear h h' hn hn' hE hE' hf hfb hends hN
  go_enter Try.func17, Try.ntmps17
  obtain ⟨a0, a1, a2⟩ := cells3 HX.out
  obtain ⟨b0, b1, b2⟩ := cells3 HY.out
  go_wp2_with fail
  refine (HEn.out _).mono ?_
  rintro e w1 ⟨rfl, hb⟩
  have HX1 := Lib.hid (HX.out.next hb)
  have HY1 := Lib.hid (HY.out.next hb)
  have HR1 := Lib.hid (HR.out.next hb)
  have HB1 := Lib.hid (below_nx HBl.out hb)
  have HZ1 := Lib.hid (show w.heap.size + 1 + 1 + 1 ≤ w1.heap.size by have := HR1.out.lt; omega)
  clear hb a0 a1 a2 b0 b1 b2
  obtain ⟨a0, a1, a2⟩ := cells3 HX1.out
  obtain ⟨b0, b1, b2⟩ := cells3 HY1.out
  go_wp2_with fail
  clear a0 a1 a2 b0 b1 b2
  go_loopw [7, 8, 10] (fun L cc p wr => ∃ (q cr : Nat) (Ls : List Nat), q ≤ N ∧ cr ≤ 1 ∧ cc = .int .i64 (cr : Int) ∧ p = .int .i64 (fr + (q : Int)) ∧ Hid (Ls.length = q ∧ Digs 65536 Ls ∧ ofd 65536 Ls + 65536 ^ q * cr = dsum l E fr q + dsum l' E' fr q) ∧ wr.ownsRow (w.heap.size + 1 + 1 + 1) 3 1 L q (ints Ls) ∧ Below w.heap.size w wr ∧ Blk wr w.heap.size 34 #[.bool false, .slice A n c, .int .i64 E] ∧ Blk wr (w.heap.size + 1) 34 #[.bool false, .slice A' n' c', .int .i64 E'] ∧ Blk wr (w.heap.size + 1 + 1) 34 #[.bool false, .slice none 0 0, .int .i64 0] ∧ w.heap.size + 1 + 1 + 1 ≤ wr.heap.size) (fun _ _ p _ => (tz - intOf p).toNat)
  case atStart => exact ⟨0, 0, [], Nat.zero_le _, by omega, rfl, by simp, Lib.hid ⟨rfl, Digs.nil _, by simp [ofd, dsum]⟩, World.ownsRow_nil _ _ _ _, HB1.out, HX1.out, HY1.out, HR1.out, HZ1.out⟩
  case round =>
    obtain ⟨q, cr, Ls, hq, hcr, rfl, rfl, HL, hO, hB, hX, hY, hR, hZ⟩ := hrel
    have HOr := Lib.hid hO
    have HBr := Lib.hid hB
    have HXr := Lib.hid hX
    have HYr := Lib.hid hY
    have HRr := Lib.hid hR
    have HZr := Lib.hid hZ
    clear hO hB hX hY hR hZ
    by_cases hlt : q < N
    · have hq1 : q + 1 ≤ 4294967296 := by have := HNb.out; omega
      obtain ⟨P, hP⟩ : ∃ P, fr + (q : Int) = P := ⟨_, rfl⟩
      have hp1 : wrap64 (P + 1) = P + 1 := wrap64_in (by have := HFb.out; have := HNn.out; omega)
      have hlt2 : decide (P < tz) = true := by simp; have := HNn.out; omega
      have HPb := Lib.hid (show P.natAbs ≤ 1099511627776 by have := HFb.out; have := HNn.out; omega)
      have HPP := Lib.hid hP
      rw [hP]
      obtain ⟨x, hx⟩ : ∃ x, dat l E P = x := ⟨_, rfl⟩
      obtain ⟨y, hy⟩ : ∃ y, dat l' E' P = y := ⟨_, rfl⟩
      have hx6 : x < 65536 := by rw [← hx]; exact dat_lt HS.out.1 _ _
      have hy6 : y < 65536 := by rw [← hy]; exact dat_lt HS.out.2 _ _
      have HAtP := Lib.hid (fun W (hb : Below w.heap.size w W) => HAt.out W hb P HPb.out)
      have HAtP' := Lib.hid (fun W (hb : Below w.heap.size w W) => HAt'.out W hb P HPb.out)
      rw [hx] at HAtP
      rw [hy] at HAtP'
      have HXY := Lib.hid (And.intro hx hy)
      clear hx hy hP
      obtain ⟨a0, a1, a2⟩ := cells3 HXr.out
      obtain ⟨b0, b1, b2⟩ := cells3 HYr.out
      obtain ⟨U, V, V1, V2, hU, hV, wU, wV, m1, m2, m3, m4, m5, hV21, hV1l, hV1, hV2⟩ := carry_facts hcr hx6 hy6
      have HStep := Lib.hid (show (Ls ++ [V1]).length = q + 1 ∧ Digs 65536 (Ls ++ [V1]) ∧ ofd 65536 (Ls ++ [V1]) + 65536 ^ (q + 1) * V2 = dsum l E fr (q + 1) + dsum l' E' fr (q + 1) from by
        refine ⟨by simp [HL.out.1], Digs.append HL.out.2.1 (Digs.cons hV1l (Digs.nil _)), ?_⟩
        have := carry_step (x := x) (y := y) HL.out.1 HL.out.2.2
        rw [hV1, hV2] at this
        rw [dsum, dsum, HPP.out, HXY.out.1, HXY.out.2]
        exact this)
      have HLT := Lib.hid (And.intro hlt hq)
      have HV21 := Lib.hid hV21
      clear hV1 hV2 hlt hcr hV1l hV21 hx6 hy6
      go_wp2_with fail
      refine wp_region_inv [48, 49, 50, 51, 52, 53, 54, 55, 56, 8] (fun d s W => (d 0 = true → s 48 = .int .i64 (cr : Int)) ∧ (d 1 = true → s 49 = .agg #[.bool false, .slice A n c, .int .i64 E]) ∧ (d 2 = true → s 50 = .int .i64 P) ∧ (d 3 = true → s 51 = .int .i64 (x : Int)) ∧ (d 4 = true → s 52 = .int .i64 (U : Int)) ∧ (d 5 = true → s 53 = .agg #[.bool false, .slice A' n' c', .int .i64 E']) ∧ (d 6 = true → s 54 = .int .i64 P) ∧ (d 7 = true → s 55 = .int .i64 (y : Int)) ∧ (d 8 = true → s 56 = .int .i64 (V : Int)) ∧ (d 9 = true → s 8 = .int .i64 (V : Int)) ∧ (d 9 = true → d 0 = true) ∧ (d 9 = false → s 8 = .int .i64 (cr : Int)) ∧ Below wr.heap.size wr W)
        rfl (by kernel_rfl) ?_ ?_ ?_
      · exact ⟨by simp, by simp, by simp, by simp, by simp, by simp, by simp, by simp, by simp, by simp, by simp, fun _ => by simp, (Below.refl _ _).drew⟩
      · refine ⟨?_, ?_, ?_, ?_, ?_, ?_, ?_, ?_, ?_, ?_, trivial⟩
        all_goals
          intro d s W hJ hfr hd hdep
          simp only [List.mem_cons, forall_eq_or_imp, List.not_mem_nil, false_implies, implies_true, and_true, Region.binds] at hdep
          have f2 := hfr 2 (by decide)
          have f3 := hfr 3 (by decide)
          have f10 := hfr 10 (by decide)
          simp at f2 f3 f10 hdep
          obtain ⟨h0, h1, h2, h3, h4, h5, h6, h7, h8, h9, x0, x1, hT⟩ := hJ
        · unfold OpSteps
          have e8 : d 9 = false := by
            cases h : d 9
            · rfl
            · have := x0 h; simp [hd] at this
          have f8 := x1 e8
          simp [go_sem, evS, f8]
          exact ⟨fun _ => by simp [sput], fun h => by simpa [sput] using h1 (by simpa [did] using h), fun h => by simpa [sput] using h2 (by simpa [did] using h), fun h => by simpa [sput] using h3 (by simpa [did] using h), fun h => by simpa [sput] using h4 (by simpa [did] using h), fun h => by simpa [sput] using h5 (by simpa [did] using h), fun h => by simpa [sput] using h6 (by simpa [did] using h), fun h => by simpa [sput] using h7 (by simpa [did] using h), fun h => by simpa [sput] using h8 (by simpa [did] using h), fun h => by simpa [sput] using h9 (by simpa [did] using h), fun h => by have := x0 (by simpa [did] using h); simp [did, this], fun h => by simpa [sput] using x1 (by simpa [did] using h), hT⟩
        · unfold OpSteps
          obtain ⟨p0, p1, p2⟩ := cells3 (HXr.out.below hT HXr.out.lt)
          simp [go_sem, evS, f2, p0, p1, p2]
          exact ⟨fun h => by simpa [sput] using h0 (by simpa [did] using h), fun _ => by simp [sput], fun h => by simpa [sput] using h2 (by simpa [did] using h), fun h => by simpa [sput] using h3 (by simpa [did] using h), fun h => by simpa [sput] using h4 (by simpa [did] using h), fun h => by simpa [sput] using h5 (by simpa [did] using h), fun h => by simpa [sput] using h6 (by simpa [did] using h), fun h => by simpa [sput] using h7 (by simpa [did] using h), fun h => by simpa [sput] using h8 (by simpa [did] using h), fun h => by simpa [sput] using h9 (by simpa [did] using h), fun h => by have := x0 (by simpa [did] using h); simp [did, this], fun h => by simpa [sput] using x1 (by simpa [did] using h), hT⟩
        · unfold OpSteps
          simp [go_sem, evS, f10]
          exact ⟨fun h => by simpa [sput] using h0 (by simpa [did] using h), fun h => by simpa [sput] using h1 (by simpa [did] using h), fun _ => by simp [sput], fun h => by simpa [sput] using h3 (by simpa [did] using h), fun h => by simpa [sput] using h4 (by simpa [did] using h), fun h => by simpa [sput] using h5 (by simpa [did] using h), fun h => by simpa [sput] using h6 (by simpa [did] using h), fun h => by simpa [sput] using h7 (by simpa [did] using h), fun h => by simpa [sput] using h8 (by simpa [did] using h), fun h => by simpa [sput] using h9 (by simpa [did] using h), fun h => by have := x0 (by simpa [did] using h); simp [did, this], fun h => by simpa [sput] using x1 (by simpa [did] using h), hT⟩
        · have fz1 := h1 (by simp [hdep])
          have fz2 := h2 (by simp [hdep])
          unfold OpSteps
          simp [go_sem, evS, fz1, fz2]
          refine (HAtP.out W (below_nx HBr.out hT)).mono ?_
          rintro e W' ⟨rfl, hb⟩
          refine ⟨_, rfl, ?_⟩
          exact ⟨fun h => by simpa [sput] using h0 (by simpa [did] using h), fun h => by simpa [sput] using h1 (by simpa [did] using h), fun h => by simpa [sput] using h2 (by simpa [did] using h), fun _ => by simp [sput], fun h => by simpa [sput] using h4 (by simpa [did] using h), fun h => by simpa [sput] using h5 (by simpa [did] using h), fun h => by simpa [sput] using h6 (by simpa [did] using h), fun h => by simpa [sput] using h7 (by simpa [did] using h), fun h => by simpa [sput] using h8 (by simpa [did] using h), fun h => by simpa [sput] using h9 (by simpa [did] using h), fun h => by have := x0 (by simpa [did] using h); simp [did, this], fun h => by simpa [sput] using x1 (by simpa [did] using h), below_nx hT hb⟩
        · have fz0 := h0 (by simp [hdep])
          have fz3 := h3 (by simp [hdep])
          unfold OpSteps
          simp [go_sem, evS, fz0, fz3, hU, wU]
          exact ⟨fun h => by simpa [sput] using h0 (by simpa [did] using h), fun h => by simpa [sput] using h1 (by simpa [did] using h), fun h => by simpa [sput] using h2 (by simpa [did] using h), fun h => by simpa [sput] using h3 (by simpa [did] using h), fun _ => by simp [sput], fun h => by simpa [sput] using h5 (by simpa [did] using h), fun h => by simpa [sput] using h6 (by simpa [did] using h), fun h => by simpa [sput] using h7 (by simpa [did] using h), fun h => by simpa [sput] using h8 (by simpa [did] using h), fun h => by simpa [sput] using h9 (by simpa [did] using h), fun h => by have := x0 (by simpa [did] using h); simp [did, this], fun h => by simpa [sput] using x1 (by simpa [did] using h), hT⟩
        · unfold OpSteps
          obtain ⟨p0, p1, p2⟩ := cells3 (HYr.out.below hT HYr.out.lt)
          simp [go_sem, evS, f3, p0, p1, p2]
          exact ⟨fun h => by simpa [sput] using h0 (by simpa [did] using h), fun h => by simpa [sput] using h1 (by simpa [did] using h), fun h => by simpa [sput] using h2 (by simpa [did] using h), fun h => by simpa [sput] using h3 (by simpa [did] using h), fun h => by simpa [sput] using h4 (by simpa [did] using h), fun _ => by simp [sput], fun h => by simpa [sput] using h6 (by simpa [did] using h), fun h => by simpa [sput] using h7 (by simpa [did] using h), fun h => by simpa [sput] using h8 (by simpa [did] using h), fun h => by simpa [sput] using h9 (by simpa [did] using h), fun h => by have := x0 (by simpa [did] using h); simp [did, this], fun h => by simpa [sput] using x1 (by simpa [did] using h), hT⟩
        · unfold OpSteps
          simp [go_sem, evS, f10]
          exact ⟨fun h => by simpa [sput] using h0 (by simpa [did] using h), fun h => by simpa [sput] using h1 (by simpa [did] using h), fun h => by simpa [sput] using h2 (by simpa [did] using h), fun h => by simpa [sput] using h3 (by simpa [did] using h), fun h => by simpa [sput] using h4 (by simpa [did] using h), fun h => by simpa [sput] using h5 (by simpa [did] using h), fun _ => by simp [sput], fun h => by simpa [sput] using h7 (by simpa [did] using h), fun h => by simpa [sput] using h8 (by simpa [did] using h), fun h => by simpa [sput] using h9 (by simpa [did] using h), fun h => by have := x0 (by simpa [did] using h); simp [did, this], fun h => by simpa [sput] using x1 (by simpa [did] using h), hT⟩
        · have fz5 := h5 (by simp [hdep])
          have fz6 := h6 (by simp [hdep])
          unfold OpSteps
          simp [go_sem, evS, fz5, fz6]
          refine (HAtP'.out W (below_nx HBr.out hT)).mono ?_
          rintro e W' ⟨rfl, hb⟩
          refine ⟨_, rfl, ?_⟩
          exact ⟨fun h => by simpa [sput] using h0 (by simpa [did] using h), fun h => by simpa [sput] using h1 (by simpa [did] using h), fun h => by simpa [sput] using h2 (by simpa [did] using h), fun h => by simpa [sput] using h3 (by simpa [did] using h), fun h => by simpa [sput] using h4 (by simpa [did] using h), fun h => by simpa [sput] using h5 (by simpa [did] using h), fun h => by simpa [sput] using h6 (by simpa [did] using h), fun _ => by simp [sput], fun h => by simpa [sput] using h8 (by simpa [did] using h), fun h => by simpa [sput] using h9 (by simpa [did] using h), fun h => by have := x0 (by simpa [did] using h); simp [did, this], fun h => by simpa [sput] using x1 (by simpa [did] using h), below_nx hT hb⟩
        · have fz4 := h4 (by simp [hdep])
          have fz7 := h7 (by simp [hdep])
          unfold OpSteps
          simp [go_sem, evS, fz4, fz7, hV, wV]
          exact ⟨fun h => by simpa [sput] using h0 (by simpa [did] using h), fun h => by simpa [sput] using h1 (by simpa [did] using h), fun h => by simpa [sput] using h2 (by simpa [did] using h), fun h => by simpa [sput] using h3 (by simpa [did] using h), fun h => by simpa [sput] using h4 (by simpa [did] using h), fun h => by simpa [sput] using h5 (by simpa [did] using h), fun h => by simpa [sput] using h6 (by simpa [did] using h), fun h => by simpa [sput] using h7 (by simpa [did] using h), fun _ => by simp [sput], fun h => by simpa [sput] using h9 (by simpa [did] using h), fun h => by have := x0 (by simpa [did] using h); simp [did, this], fun h => by simpa [sput] using x1 (by simpa [did] using h), hT⟩
        · have fz8 := h8 (by simp [hdep])
          unfold OpSteps
          simp [go_sem, evS, fz8]
          exact ⟨fun h => by simpa [sput] using h0 (by simpa [did] using h), fun h => by simpa [sput] using h1 (by simpa [did] using h), fun h => by simpa [sput] using h2 (by simpa [did] using h), fun h => by simpa [sput] using h3 (by simpa [did] using h), fun h => by simpa [sput] using h4 (by simpa [did] using h), fun h => by simpa [sput] using h5 (by simpa [did] using h), fun h => by simpa [sput] using h6 (by simpa [did] using h), fun h => by simpa [sput] using h7 (by simpa [did] using h), fun h => by simpa [sput] using h8 (by simpa [did] using h), fun _ => by simp [sput], fun _ => by first | simp [did, hdep] | (have := x0 (by simp [hdep]); simp [did, this]), fun h => by simp [did] at h, hT⟩
      intro d s W hJ hd
      obtain ⟨h0, h1, h2, h3, h4, h5, h6, h7, h8, h9, x0, x1, hT⟩ := hJ
      have hs8 := h9 (hd 9 (by decide))
      have hb : Below wr.heap.size wr W := hT
      clear h0 h1 h2 h3 h4 h5 h6 h7 h8 h9 x0 x1 hT hd
      simp [setAll, hs8]
      clear hs8
      generalize s 48 = s48
      generalize s 49 = s49
      generalize s 50 = s50
      generalize s 51 = s51
      generalize s 52 = s52
      generalize s 53 = s53
      generalize s 54 = s54
      generalize s 55 = s55
      generalize s 56 = s56
      have HX2 := Lib.hid (HXr.out.next hb)
      have HY2 := Lib.hid (HYr.out.next hb)
      have HR2 := Lib.hid (HRr.out.next hb)
      have HB2 := Lib.hid (below_nx HBr.out hb)
      have HZ2 := Lib.hid (Nat.le_trans HZr.out hb.size)
      have HO2 := Lib.hid (ownsRow_below HOr.out hb)
      clear hb a0 a1 a2 b0 b1 b2
      generalize W = w2 at *
      clear hU hV wU wV hlt2
      have HOaa := Lib.hid (HO2.out.alloc (.cells #[.int .i64 (V1 : Int)] 3))
      go_wp2_with (at_builtin; refine wpList_append_own _ rfl _ _ 32 rfl (w.heap.size + 1 + 1 + 1) 3 i0 (.int .i64 0) 1 8 Try.underlying32 hi hz0 hz1 hz2 rfl (by decide) _ q (ints Ls) rfl HOaa.out ⟨w2.heap.size, 0, none⟩ 1 1 [.int .i64 (V1 : Int)] rfl rfl ?c1a (by intro u hu; simp at hu; subst hu; rfl) ?c3a ?c4a ?c5a ?_)
      case c1a => exact cell_one_new _ _ _
      case c3a => unfold maxLen; have := HNb.out; omega
      case c4a => have := HNb.out; omega
      case c5a => (try simp); have := HZ2.out; omega
      intro v' w3 hown' hgrow _
      have hal := (Below.refl w2.heap.size w2).alloc (Nat.le_refl _) (.cells #[.int .i64 (V1 : Int)] 3)
      have hgx : ∀ k, k < w.heap.size + 1 + 1 + 1 → w3.heap[k]? = w2.heap[k]? := fun k hk => (hgrow.block k (by simp; have := HZ2.out; omega) (fun e => by have := (HOaa.out.lt k e.symm).1; omega)).trans (hal.block k (by have := HZ2.out; omega))
      have HX3 := Lib.hid (show Blk w3 w.heap.size 34 _ from (hgx _ (by omega)).trans HX2.out)
      have HY3 := Lib.hid (show Blk w3 (w.heap.size + 1) 34 _ from (hgx _ (by omega)).trans HY2.out)
      have HR3 := Lib.hid (show Blk w3 (w.heap.size + 1 + 1) 34 _ from (hgx _ (by omega)).trans HR2.out)
      have HB3 := Lib.hid ((below_nx HB2.out hal).grown hgrow (by simp; have := HZ2.out; omega) (fun k hk => by have := (HOaa.out.lt k hk).1; omega))
      have HZ3 := Lib.hid (show w.heap.size + 1 + 1 + 1 ≤ w3.heap.size by have := hgrow.size; have := HZ2.out; simp at *; omega)
      have HO3 := Lib.hid (show w3.ownsRow (w.heap.size + 1 + 1 + 1) 3 1 v' (q + 1) (ints (Ls ++ [V1])) by rw [ints_snoc]; exact hown')
      clear hown' hgrow hal hgx
      go_wp2_with fail
      go_roundw
      case rel => exact ⟨q + 1, V2, Ls ++ [V1], by have := HLT.out.1; omega, HV21.out, by rw [m5], congrArg (Value.int .i64) (by have := HPP.out; rw [hp1]; omega), HStep, HO3.out, HB3.out, HX3.out, HY3.out, HR3.out, HZ3.out⟩
      case measure => have := HPP.out; have := HLT.out.1; have := HNn.out; simp [intOf]; omega
    · obtain rfl : q = N := by omega
      have hlt2 : decide (fr + (q : Int) < tz) = false := by simp; have := HNn.out; omega
      have HX2 := HXr
      have HY2 := HYr
      have HR2 := HRr
      have HB2 := HBr
      have HZ2 := HZr
      have HO2 := HOr
      generalize wr = w2 at *
      have HOab := Lib.hid (HO2.out.alloc (.cells #[.int .i64 (cr : Int)] 3))
      go_wp2_with (at_builtin; refine wpList_append_own _ rfl _ _ 32 rfl (w.heap.size + 1 + 1 + 1) 3 i0 (.int .i64 0) 1 8 Try.underlying32 hi hz0 hz1 hz2 rfl (by decide) _ q (ints Ls) rfl HOab.out ⟨w2.heap.size, 0, none⟩ 1 1 [.int .i64 (cr : Int)] rfl rfl ?c1b (by intro u hu; simp at hu; subst hu; rfl) ?c3b ?c4b ?c5b ?_)
      case c1b => exact cell_one_new _ _ _
      case c3b => unfold maxLen; have := HNb.out; omega
      case c4b => have := HNb.out; omega
      case c5b => (try simp); have := HZ2.out; omega
      intro v' w3 hown' hgrow _
      have hal := (Below.refl w2.heap.size w2).alloc (Nat.le_refl _) (.cells #[.int .i64 (cr : Int)] 3)
      have hgx : ∀ k, k < w.heap.size + 1 + 1 + 1 → w3.heap[k]? = w2.heap[k]? := fun k hk => (hgrow.block k (by simp; have := HZ2.out; omega) (fun e => by have := (HOab.out.lt k e.symm).1; omega)).trans (hal.block k (by have := HZ2.out; omega))
      have HX3 := Lib.hid (show Blk w3 w.heap.size 34 _ from (hgx _ (by omega)).trans HX2.out)
      have HY3 := Lib.hid (show Blk w3 (w.heap.size + 1) 34 _ from (hgx _ (by omega)).trans HY2.out)
      have HR3 := Lib.hid (show Blk w3 (w.heap.size + 1 + 1) 34 _ from (hgx _ (by omega)).trans HR2.out)
      have HB3 := Lib.hid ((below_nx HB2.out hal).grown hgrow (by simp; have := HZ2.out; omega) (fun k hk => by have := (HOab.out.lt k hk).1; omega))
      have HZ3 := Lib.hid (show w.heap.size + 1 + 1 + 1 ≤ w3.heap.size by have := hgrow.size; have := HZ2.out; simp at *; omega)
      have HO3 := Lib.hid (show w3.ownsRow (w.heap.size + 1 + 1 + 1) 3 1 v' (q + 1) (ints (Ls ++ [cr])) by rw [ints_snoc]; exact hown')
      clear hown' hgrow hal hgx

      have hrd := own_rd (n := q + 1) HO3.out (Digs.append HL.out.2.1 (Digs.cons (show cr < 65536 by omega) (Digs.nil _)))
      obtain ⟨Am, cm, rfl, hRm, hcm⟩ := hrd
      have HRm := Lib.hid hRm
      have Hcm := Lib.hid hcm
      clear hRm hcm
      go_wp2_with fail
      refine (made_any false Am (q + 1) cm _ fr _ HRm.out (by have := HNb.out; omega) (by have := HFb.out; omega) Hcm.out).mono ?_
      rintro e w4 ⟨ng4, A4, n4, c4, E4, L4, rfl, hR4, hN4, hd4, hb⟩
      have HR4 := Lib.hid (HR3.out.next hb)
      have f0 := HR4.out.frozen 0
      have f1 := HR4.out.frozen 1
      have f2 := HR4.out.frozen 2
      obtain ⟨r0, r1, r2⟩ := cells3 HR4.out
      have HB4 := Lib.hid (below_nx HB3.out hb)
      have HRd4 := Lib.hid hR4
      have HN4 := Lib.hid hN4
      have HD4 := Lib.hid (show rdy ng4 L4 E4 = rdy false l E + rdy false l' E' from hd4.trans (by rw [HV1.out, HV2.out, dy_add, sgd_add]; exact add_val false HL.out.1 HL.out.2.2))
      clear hb hR4 hN4 hd4
      go_wp2_with fail
      obtain ⟨q0, q1, q2⟩ := cells3 (Blk.store3 HR4.out (.bool ng4) (.slice A4 n4 c4) (.int .i64 E4))
      exact bodyPost_ret (v := .agg #[.bool ng4, .slice A4 n4 c4, .int .i64 E4]) (by simp [results, Try.results17, go_sem, q0, q1, q2]) rfl (retR_done HR4.out HRd4.out HN4.out HD4.out HB4.out (by omega))

set_option maxRecDepth 100000 in
set_option maxHeartbeats 8000000 in
theorem radd_tt (A : Option Addr) (n c : Nat) (l : List Nat) (E : Int) (A' : Option Addr) (n' c' : Nat) (l' : List Nat) (E' : Int) (w : World) (h : Rd w A n c l) (h' : Rd w A' n' c' l') (hn : n ≤ 536870912) (hn' : n' ≤ 536870912) (hE : E.natAbs ≤ 1073741824) (hE' : E'.natAbs ≤ 1073741824)  :
    Calls Try.prog 17 #[.agg #[.bool true, .slice A n c, .int .i64 E], .agg #[.bool true, .slice A' n' c', .int .i64 E']] w (RetR (rdy true l E + rdy true l' E') w) := by
  obtain ⟨⟨fr, tz⟩, hf⟩ : ∃ ft, endsF n E n' E' = ft := ⟨_, rfl⟩
  have hfb := ends_bd hf hn hn' hE hE'
  have hends := ends_ok hf
  obtain ⟨N, hN⟩ : ∃ N : Nat, fr + N = tz := ⟨(tz - fr).toNat, by have := hends.2.2; omega⟩
  have HEn := Lib.hid (fun W => rends_any true A n c E true A' n' c' E' W (by omega) (by omega) (by omega) (by omega) fr tz hf)
  have HAt := Lib.hid (fun W (hb : Below w.heap.size w W) p (hp : p.natAbs ≤ 1099511627776) => rdat_any true A n c l E p W (h.below hb) (by omega) (by omega) hp)
  have HAt' := Lib.hid (fun W (hb : Below w.heap.size w W) p (hp : p.natAbs ≤ 1099511627776) => rdat_any true A' n' c' l' E' p W (h'.below hb) (by omega) (by omega) hp)
  have HS := Lib.hid (And.intro h.2.2.2.1 h'.2.2.2.1)
  have Hh := Lib.hid (And.intro h h')
  have HV1 := Lib.hid (show rdy true l E = dy (sgd true (dsum l E fr N)) (16 * fr) from dsum_val (by rw [← h.1]; exact hends.1) hN true)
  have HV2 := Lib.hid (show rdy true l' E' = dy (sgd true (dsum l' E' fr N)) (16 * fr) from dsum_val (by rw [← h'.1]; exact hends.2.1) hN true)
  have HFb := Lib.hid hfb
  have HNn := Lib.hid hN
  have HNb := Lib.hid (show N ≤ 4294967296 by omega)
  have HX := Lib.hid (((Blk.new w 34 #[.bool true, .slice A n c, .int .i64 E]).alloc (.cells #[.bool true, .slice A' n' c', .int .i64 E'] 34)).alloc (.cells #[.bool false, .slice none 0 0, .int .i64 0] 34))
  have HY := Lib.hid ((Blk.new_ (w.alloc (.cells #[.bool true, .slice A n c, .int .i64 E] 34)) 34 #[.bool true, .slice A' n' c', .int .i64 E'] (w.heap.size + 1) (by simp)).alloc (.cells #[.bool false, .slice none 0 0, .int .i64 0] 34))
  have HR := Lib.hid (Blk.new_ ((w.alloc (.cells #[.bool true, .slice A n c, .int .i64 E] 34)).alloc (.cells #[.bool true, .slice A' n' c', .int .i64 E'] 34)) 34 #[.bool false, .slice none 0 0, .int .i64 0] (w.heap.size + 1 + 1) (by simp))
  have HBl := Lib.hid ((((Below.refl w.heap.size w).alloc (Nat.le_refl _) (.cells #[.bool true, .slice A n c, .int .i64 E] 34)).alloc (by simp) (.cells #[.bool true, .slice A' n' c', .int .i64 E'] 34)).alloc (by simp; omega) (.cells #[.bool false, .slice none 0 0, .int .i64 0] 34))
  obtain ⟨i0, hi, hz0, hz1, hz2⟩ := info_parts info_i64
  clear h h' hn hn' hE hE' hf hfb hends hN
  go_enter Try.func17, Try.ntmps17
  obtain ⟨a0, a1, a2⟩ := cells3 HX.out
  obtain ⟨b0, b1, b2⟩ := cells3 HY.out
  go_wp2_with fail
  refine (HEn.out _).mono ?_
  rintro e w1 ⟨rfl, hb⟩
  have HX1 := Lib.hid (HX.out.next hb)
  have HY1 := Lib.hid (HY.out.next hb)
  have HR1 := Lib.hid (HR.out.next hb)
  have HB1 := Lib.hid (below_nx HBl.out hb)
  have HZ1 := Lib.hid (show w.heap.size + 1 + 1 + 1 ≤ w1.heap.size by have := HR1.out.lt; omega)
  clear hb a0 a1 a2 b0 b1 b2
  obtain ⟨a0, a1, a2⟩ := cells3 HX1.out
  obtain ⟨b0, b1, b2⟩ := cells3 HY1.out
  go_wp2_with fail
  clear a0 a1 a2 b0 b1 b2
  go_loopw [7, 8, 10] (fun L cc p wr => ∃ (q cr : Nat) (Ls : List Nat), q ≤ N ∧ cr ≤ 1 ∧ cc = .int .i64 (cr : Int) ∧ p = .int .i64 (fr + (q : Int)) ∧ Hid (Ls.length = q ∧ Digs 65536 Ls ∧ ofd 65536 Ls + 65536 ^ q * cr = dsum l E fr q + dsum l' E' fr q) ∧ wr.ownsRow (w.heap.size + 1 + 1 + 1) 3 1 L q (ints Ls) ∧ Below w.heap.size w wr ∧ Blk wr w.heap.size 34 #[.bool true, .slice A n c, .int .i64 E] ∧ Blk wr (w.heap.size + 1) 34 #[.bool true, .slice A' n' c', .int .i64 E'] ∧ Blk wr (w.heap.size + 1 + 1) 34 #[.bool false, .slice none 0 0, .int .i64 0] ∧ w.heap.size + 1 + 1 + 1 ≤ wr.heap.size) (fun _ _ p _ => (tz - intOf p).toNat)
  case atStart => exact ⟨0, 0, [], Nat.zero_le _, by omega, rfl, by simp, Lib.hid ⟨rfl, Digs.nil _, by simp [ofd, dsum]⟩, World.ownsRow_nil _ _ _ _, HB1.out, HX1.out, HY1.out, HR1.out, HZ1.out⟩
  case round =>
    obtain ⟨q, cr, Ls, hq, hcr, rfl, rfl, HL, hO, hB, hX, hY, hR, hZ⟩ := hrel
    have HOr := Lib.hid hO
    have HBr := Lib.hid hB
    have HXr := Lib.hid hX
    have HYr := Lib.hid hY
    have HRr := Lib.hid hR
    have HZr := Lib.hid hZ
    clear hO hB hX hY hR hZ
    by_cases hlt : q < N
    · have hq1 : q + 1 ≤ 4294967296 := by have := HNb.out; omega
      obtain ⟨P, hP⟩ : ∃ P, fr + (q : Int) = P := ⟨_, rfl⟩
      have hp1 : wrap64 (P + 1) = P + 1 := wrap64_in (by have := HFb.out; have := HNn.out; omega)
      have hlt2 : decide (P < tz) = true := by simp; have := HNn.out; omega
      have HPb := Lib.hid (show P.natAbs ≤ 1099511627776 by have := HFb.out; have := HNn.out; omega)
      have HPP := Lib.hid hP
      rw [hP]
      obtain ⟨x, hx⟩ : ∃ x, dat l E P = x := ⟨_, rfl⟩
      obtain ⟨y, hy⟩ : ∃ y, dat l' E' P = y := ⟨_, rfl⟩
      have hx6 : x < 65536 := by rw [← hx]; exact dat_lt HS.out.1 _ _
      have hy6 : y < 65536 := by rw [← hy]; exact dat_lt HS.out.2 _ _
      have HAtP := Lib.hid (fun W (hb : Below w.heap.size w W) => HAt.out W hb P HPb.out)
      have HAtP' := Lib.hid (fun W (hb : Below w.heap.size w W) => HAt'.out W hb P HPb.out)
      rw [hx] at HAtP
      rw [hy] at HAtP'
      have HXY := Lib.hid (And.intro hx hy)
      clear hx hy hP
      obtain ⟨a0, a1, a2⟩ := cells3 HXr.out
      obtain ⟨b0, b1, b2⟩ := cells3 HYr.out
      obtain ⟨U, V, V1, V2, hU, hV, wU, wV, m1, m2, m3, m4, m5, hV21, hV1l, hV1, hV2⟩ := carry_facts hcr hx6 hy6
      have HStep := Lib.hid (show (Ls ++ [V1]).length = q + 1 ∧ Digs 65536 (Ls ++ [V1]) ∧ ofd 65536 (Ls ++ [V1]) + 65536 ^ (q + 1) * V2 = dsum l E fr (q + 1) + dsum l' E' fr (q + 1) from by
        refine ⟨by simp [HL.out.1], Digs.append HL.out.2.1 (Digs.cons hV1l (Digs.nil _)), ?_⟩
        have := carry_step (x := x) (y := y) HL.out.1 HL.out.2.2
        rw [hV1, hV2] at this
        rw [dsum, dsum, HPP.out, HXY.out.1, HXY.out.2]
        exact this)
      have HLT := Lib.hid (And.intro hlt hq)
      have HV21 := Lib.hid hV21
      clear hV1 hV2 hlt hcr hV1l hV21 hx6 hy6
      go_wp2_with fail
      refine wp_region_inv [48, 49, 50, 51, 52, 53, 54, 55, 56, 8] (fun d s W => (d 0 = true → s 48 = .int .i64 (cr : Int)) ∧ (d 1 = true → s 49 = .agg #[.bool true, .slice A n c, .int .i64 E]) ∧ (d 2 = true → s 50 = .int .i64 P) ∧ (d 3 = true → s 51 = .int .i64 (x : Int)) ∧ (d 4 = true → s 52 = .int .i64 (U : Int)) ∧ (d 5 = true → s 53 = .agg #[.bool true, .slice A' n' c', .int .i64 E']) ∧ (d 6 = true → s 54 = .int .i64 P) ∧ (d 7 = true → s 55 = .int .i64 (y : Int)) ∧ (d 8 = true → s 56 = .int .i64 (V : Int)) ∧ (d 9 = true → s 8 = .int .i64 (V : Int)) ∧ (d 9 = true → d 0 = true) ∧ (d 9 = false → s 8 = .int .i64 (cr : Int)) ∧ Below wr.heap.size wr W)
        rfl (by kernel_rfl) ?_ ?_ ?_
      · exact ⟨by simp, by simp, by simp, by simp, by simp, by simp, by simp, by simp, by simp, by simp, by simp, fun _ => by simp, (Below.refl _ _).drew⟩
      · refine ⟨?_, ?_, ?_, ?_, ?_, ?_, ?_, ?_, ?_, ?_, trivial⟩
        all_goals
          intro d s W hJ hfr hd hdep
          simp only [List.mem_cons, forall_eq_or_imp, List.not_mem_nil, false_implies, implies_true, and_true, Region.binds] at hdep
          have f2 := hfr 2 (by decide)
          have f3 := hfr 3 (by decide)
          have f10 := hfr 10 (by decide)
          simp at f2 f3 f10 hdep
          obtain ⟨h0, h1, h2, h3, h4, h5, h6, h7, h8, h9, x0, x1, hT⟩ := hJ
        · unfold OpSteps
          have e8 : d 9 = false := by
            cases h : d 9
            · rfl
            · have := x0 h; simp [hd] at this
          have f8 := x1 e8
          simp [go_sem, evS, f8]
          exact ⟨fun _ => by simp [sput], fun h => by simpa [sput] using h1 (by simpa [did] using h), fun h => by simpa [sput] using h2 (by simpa [did] using h), fun h => by simpa [sput] using h3 (by simpa [did] using h), fun h => by simpa [sput] using h4 (by simpa [did] using h), fun h => by simpa [sput] using h5 (by simpa [did] using h), fun h => by simpa [sput] using h6 (by simpa [did] using h), fun h => by simpa [sput] using h7 (by simpa [did] using h), fun h => by simpa [sput] using h8 (by simpa [did] using h), fun h => by simpa [sput] using h9 (by simpa [did] using h), fun h => by have := x0 (by simpa [did] using h); simp [did, this], fun h => by simpa [sput] using x1 (by simpa [did] using h), hT⟩
        · unfold OpSteps
          obtain ⟨p0, p1, p2⟩ := cells3 (HXr.out.below hT HXr.out.lt)
          simp [go_sem, evS, f2, p0, p1, p2]
          exact ⟨fun h => by simpa [sput] using h0 (by simpa [did] using h), fun _ => by simp [sput], fun h => by simpa [sput] using h2 (by simpa [did] using h), fun h => by simpa [sput] using h3 (by simpa [did] using h), fun h => by simpa [sput] using h4 (by simpa [did] using h), fun h => by simpa [sput] using h5 (by simpa [did] using h), fun h => by simpa [sput] using h6 (by simpa [did] using h), fun h => by simpa [sput] using h7 (by simpa [did] using h), fun h => by simpa [sput] using h8 (by simpa [did] using h), fun h => by simpa [sput] using h9 (by simpa [did] using h), fun h => by have := x0 (by simpa [did] using h); simp [did, this], fun h => by simpa [sput] using x1 (by simpa [did] using h), hT⟩
        · unfold OpSteps
          simp [go_sem, evS, f10]
          exact ⟨fun h => by simpa [sput] using h0 (by simpa [did] using h), fun h => by simpa [sput] using h1 (by simpa [did] using h), fun _ => by simp [sput], fun h => by simpa [sput] using h3 (by simpa [did] using h), fun h => by simpa [sput] using h4 (by simpa [did] using h), fun h => by simpa [sput] using h5 (by simpa [did] using h), fun h => by simpa [sput] using h6 (by simpa [did] using h), fun h => by simpa [sput] using h7 (by simpa [did] using h), fun h => by simpa [sput] using h8 (by simpa [did] using h), fun h => by simpa [sput] using h9 (by simpa [did] using h), fun h => by have := x0 (by simpa [did] using h); simp [did, this], fun h => by simpa [sput] using x1 (by simpa [did] using h), hT⟩
        · have fz1 := h1 (by simp [hdep])
          have fz2 := h2 (by simp [hdep])
          unfold OpSteps
          simp [go_sem, evS, fz1, fz2]
          refine (HAtP.out W (below_nx HBr.out hT)).mono ?_
          rintro e W' ⟨rfl, hb⟩
          refine ⟨_, rfl, ?_⟩
          exact ⟨fun h => by simpa [sput] using h0 (by simpa [did] using h), fun h => by simpa [sput] using h1 (by simpa [did] using h), fun h => by simpa [sput] using h2 (by simpa [did] using h), fun _ => by simp [sput], fun h => by simpa [sput] using h4 (by simpa [did] using h), fun h => by simpa [sput] using h5 (by simpa [did] using h), fun h => by simpa [sput] using h6 (by simpa [did] using h), fun h => by simpa [sput] using h7 (by simpa [did] using h), fun h => by simpa [sput] using h8 (by simpa [did] using h), fun h => by simpa [sput] using h9 (by simpa [did] using h), fun h => by have := x0 (by simpa [did] using h); simp [did, this], fun h => by simpa [sput] using x1 (by simpa [did] using h), below_nx hT hb⟩
        · have fz0 := h0 (by simp [hdep])
          have fz3 := h3 (by simp [hdep])
          unfold OpSteps
          simp [go_sem, evS, fz0, fz3, hU, wU]
          exact ⟨fun h => by simpa [sput] using h0 (by simpa [did] using h), fun h => by simpa [sput] using h1 (by simpa [did] using h), fun h => by simpa [sput] using h2 (by simpa [did] using h), fun h => by simpa [sput] using h3 (by simpa [did] using h), fun _ => by simp [sput], fun h => by simpa [sput] using h5 (by simpa [did] using h), fun h => by simpa [sput] using h6 (by simpa [did] using h), fun h => by simpa [sput] using h7 (by simpa [did] using h), fun h => by simpa [sput] using h8 (by simpa [did] using h), fun h => by simpa [sput] using h9 (by simpa [did] using h), fun h => by have := x0 (by simpa [did] using h); simp [did, this], fun h => by simpa [sput] using x1 (by simpa [did] using h), hT⟩
        · unfold OpSteps
          obtain ⟨p0, p1, p2⟩ := cells3 (HYr.out.below hT HYr.out.lt)
          simp [go_sem, evS, f3, p0, p1, p2]
          exact ⟨fun h => by simpa [sput] using h0 (by simpa [did] using h), fun h => by simpa [sput] using h1 (by simpa [did] using h), fun h => by simpa [sput] using h2 (by simpa [did] using h), fun h => by simpa [sput] using h3 (by simpa [did] using h), fun h => by simpa [sput] using h4 (by simpa [did] using h), fun _ => by simp [sput], fun h => by simpa [sput] using h6 (by simpa [did] using h), fun h => by simpa [sput] using h7 (by simpa [did] using h), fun h => by simpa [sput] using h8 (by simpa [did] using h), fun h => by simpa [sput] using h9 (by simpa [did] using h), fun h => by have := x0 (by simpa [did] using h); simp [did, this], fun h => by simpa [sput] using x1 (by simpa [did] using h), hT⟩
        · unfold OpSteps
          simp [go_sem, evS, f10]
          exact ⟨fun h => by simpa [sput] using h0 (by simpa [did] using h), fun h => by simpa [sput] using h1 (by simpa [did] using h), fun h => by simpa [sput] using h2 (by simpa [did] using h), fun h => by simpa [sput] using h3 (by simpa [did] using h), fun h => by simpa [sput] using h4 (by simpa [did] using h), fun h => by simpa [sput] using h5 (by simpa [did] using h), fun _ => by simp [sput], fun h => by simpa [sput] using h7 (by simpa [did] using h), fun h => by simpa [sput] using h8 (by simpa [did] using h), fun h => by simpa [sput] using h9 (by simpa [did] using h), fun h => by have := x0 (by simpa [did] using h); simp [did, this], fun h => by simpa [sput] using x1 (by simpa [did] using h), hT⟩
        · have fz5 := h5 (by simp [hdep])
          have fz6 := h6 (by simp [hdep])
          unfold OpSteps
          simp [go_sem, evS, fz5, fz6]
          refine (HAtP'.out W (below_nx HBr.out hT)).mono ?_
          rintro e W' ⟨rfl, hb⟩
          refine ⟨_, rfl, ?_⟩
          exact ⟨fun h => by simpa [sput] using h0 (by simpa [did] using h), fun h => by simpa [sput] using h1 (by simpa [did] using h), fun h => by simpa [sput] using h2 (by simpa [did] using h), fun h => by simpa [sput] using h3 (by simpa [did] using h), fun h => by simpa [sput] using h4 (by simpa [did] using h), fun h => by simpa [sput] using h5 (by simpa [did] using h), fun h => by simpa [sput] using h6 (by simpa [did] using h), fun _ => by simp [sput], fun h => by simpa [sput] using h8 (by simpa [did] using h), fun h => by simpa [sput] using h9 (by simpa [did] using h), fun h => by have := x0 (by simpa [did] using h); simp [did, this], fun h => by simpa [sput] using x1 (by simpa [did] using h), below_nx hT hb⟩
        · have fz4 := h4 (by simp [hdep])
          have fz7 := h7 (by simp [hdep])
          unfold OpSteps
          simp [go_sem, evS, fz4, fz7, hV, wV]
          exact ⟨fun h => by simpa [sput] using h0 (by simpa [did] using h), fun h => by simpa [sput] using h1 (by simpa [did] using h), fun h => by simpa [sput] using h2 (by simpa [did] using h), fun h => by simpa [sput] using h3 (by simpa [did] using h), fun h => by simpa [sput] using h4 (by simpa [did] using h), fun h => by simpa [sput] using h5 (by simpa [did] using h), fun h => by simpa [sput] using h6 (by simpa [did] using h), fun h => by simpa [sput] using h7 (by simpa [did] using h), fun _ => by simp [sput], fun h => by simpa [sput] using h9 (by simpa [did] using h), fun h => by have := x0 (by simpa [did] using h); simp [did, this], fun h => by simpa [sput] using x1 (by simpa [did] using h), hT⟩
        · have fz8 := h8 (by simp [hdep])
          unfold OpSteps
          simp [go_sem, evS, fz8]
          exact ⟨fun h => by simpa [sput] using h0 (by simpa [did] using h), fun h => by simpa [sput] using h1 (by simpa [did] using h), fun h => by simpa [sput] using h2 (by simpa [did] using h), fun h => by simpa [sput] using h3 (by simpa [did] using h), fun h => by simpa [sput] using h4 (by simpa [did] using h), fun h => by simpa [sput] using h5 (by simpa [did] using h), fun h => by simpa [sput] using h6 (by simpa [did] using h), fun h => by simpa [sput] using h7 (by simpa [did] using h), fun h => by simpa [sput] using h8 (by simpa [did] using h), fun _ => by simp [sput], fun _ => by first | simp [did, hdep] | (have := x0 (by simp [hdep]); simp [did, this]), fun h => by simp [did] at h, hT⟩
      intro d s W hJ hd
      obtain ⟨h0, h1, h2, h3, h4, h5, h6, h7, h8, h9, x0, x1, hT⟩ := hJ
      have hs8 := h9 (hd 9 (by decide))
      have hb : Below wr.heap.size wr W := hT
      clear h0 h1 h2 h3 h4 h5 h6 h7 h8 h9 x0 x1 hT hd
      simp [setAll, hs8]
      clear hs8
      generalize s 48 = s48
      generalize s 49 = s49
      generalize s 50 = s50
      generalize s 51 = s51
      generalize s 52 = s52
      generalize s 53 = s53
      generalize s 54 = s54
      generalize s 55 = s55
      generalize s 56 = s56
      have HX2 := Lib.hid (HXr.out.next hb)
      have HY2 := Lib.hid (HYr.out.next hb)
      have HR2 := Lib.hid (HRr.out.next hb)
      have HB2 := Lib.hid (below_nx HBr.out hb)
      have HZ2 := Lib.hid (Nat.le_trans HZr.out hb.size)
      have HO2 := Lib.hid (ownsRow_below HOr.out hb)
      clear hb a0 a1 a2 b0 b1 b2
      generalize W = w2 at *
      clear hU hV wU wV hlt2
      have HOaa := Lib.hid (HO2.out.alloc (.cells #[.int .i64 (V1 : Int)] 3))
      go_wp2_with (at_builtin; refine wpList_append_own _ rfl _ _ 32 rfl (w.heap.size + 1 + 1 + 1) 3 i0 (.int .i64 0) 1 8 Try.underlying32 hi hz0 hz1 hz2 rfl (by decide) _ q (ints Ls) rfl HOaa.out ⟨w2.heap.size, 0, none⟩ 1 1 [.int .i64 (V1 : Int)] rfl rfl ?c1a (by intro u hu; simp at hu; subst hu; rfl) ?c3a ?c4a ?c5a ?_)
      case c1a => exact cell_one_new _ _ _
      case c3a => unfold maxLen; have := HNb.out; omega
      case c4a => have := HNb.out; omega
      case c5a => (try simp); have := HZ2.out; omega
      intro v' w3 hown' hgrow _
      have hal := (Below.refl w2.heap.size w2).alloc (Nat.le_refl _) (.cells #[.int .i64 (V1 : Int)] 3)
      have hgx : ∀ k, k < w.heap.size + 1 + 1 + 1 → w3.heap[k]? = w2.heap[k]? := fun k hk => (hgrow.block k (by simp; have := HZ2.out; omega) (fun e => by have := (HOaa.out.lt k e.symm).1; omega)).trans (hal.block k (by have := HZ2.out; omega))
      have HX3 := Lib.hid (show Blk w3 w.heap.size 34 _ from (hgx _ (by omega)).trans HX2.out)
      have HY3 := Lib.hid (show Blk w3 (w.heap.size + 1) 34 _ from (hgx _ (by omega)).trans HY2.out)
      have HR3 := Lib.hid (show Blk w3 (w.heap.size + 1 + 1) 34 _ from (hgx _ (by omega)).trans HR2.out)
      have HB3 := Lib.hid ((below_nx HB2.out hal).grown hgrow (by simp; have := HZ2.out; omega) (fun k hk => by have := (HOaa.out.lt k hk).1; omega))
      have HZ3 := Lib.hid (show w.heap.size + 1 + 1 + 1 ≤ w3.heap.size by have := hgrow.size; have := HZ2.out; simp at *; omega)
      have HO3 := Lib.hid (show w3.ownsRow (w.heap.size + 1 + 1 + 1) 3 1 v' (q + 1) (ints (Ls ++ [V1])) by rw [ints_snoc]; exact hown')
      clear hown' hgrow hal hgx
      go_wp2_with fail
      go_roundw
      case rel => exact ⟨q + 1, V2, Ls ++ [V1], by have := HLT.out.1; omega, HV21.out, by rw [m5], congrArg (Value.int .i64) (by have := HPP.out; rw [hp1]; omega), HStep, HO3.out, HB3.out, HX3.out, HY3.out, HR3.out, HZ3.out⟩
      case measure => have := HPP.out; have := HLT.out.1; have := HNn.out; simp [intOf]; omega
    · obtain rfl : q = N := by omega
      have hlt2 : decide (fr + (q : Int) < tz) = false := by simp; have := HNn.out; omega
      have HX2 := HXr
      have HY2 := HYr
      have HR2 := HRr
      have HB2 := HBr
      have HZ2 := HZr
      have HO2 := HOr
      generalize wr = w2 at *
      have HOab := Lib.hid (HO2.out.alloc (.cells #[.int .i64 (cr : Int)] 3))
      go_wp2_with (at_builtin; refine wpList_append_own _ rfl _ _ 32 rfl (w.heap.size + 1 + 1 + 1) 3 i0 (.int .i64 0) 1 8 Try.underlying32 hi hz0 hz1 hz2 rfl (by decide) _ q (ints Ls) rfl HOab.out ⟨w2.heap.size, 0, none⟩ 1 1 [.int .i64 (cr : Int)] rfl rfl ?c1b (by intro u hu; simp at hu; subst hu; rfl) ?c3b ?c4b ?c5b ?_)
      case c1b => exact cell_one_new _ _ _
      case c3b => unfold maxLen; have := HNb.out; omega
      case c4b => have := HNb.out; omega
      case c5b => (try simp); have := HZ2.out; omega
      intro v' w3 hown' hgrow _
      have hal := (Below.refl w2.heap.size w2).alloc (Nat.le_refl _) (.cells #[.int .i64 (cr : Int)] 3)
      have hgx : ∀ k, k < w.heap.size + 1 + 1 + 1 → w3.heap[k]? = w2.heap[k]? := fun k hk => (hgrow.block k (by simp; have := HZ2.out; omega) (fun e => by have := (HOab.out.lt k e.symm).1; omega)).trans (hal.block k (by have := HZ2.out; omega))
      have HX3 := Lib.hid (show Blk w3 w.heap.size 34 _ from (hgx _ (by omega)).trans HX2.out)
      have HY3 := Lib.hid (show Blk w3 (w.heap.size + 1) 34 _ from (hgx _ (by omega)).trans HY2.out)
      have HR3 := Lib.hid (show Blk w3 (w.heap.size + 1 + 1) 34 _ from (hgx _ (by omega)).trans HR2.out)
      have HB3 := Lib.hid ((below_nx HB2.out hal).grown hgrow (by simp; have := HZ2.out; omega) (fun k hk => by have := (HOab.out.lt k hk).1; omega))
      have HZ3 := Lib.hid (show w.heap.size + 1 + 1 + 1 ≤ w3.heap.size by have := hgrow.size; have := HZ2.out; simp at *; omega)
      have HO3 := Lib.hid (show w3.ownsRow (w.heap.size + 1 + 1 + 1) 3 1 v' (q + 1) (ints (Ls ++ [cr])) by rw [ints_snoc]; exact hown')
      clear hown' hgrow hal hgx

      have hrd := own_rd (n := q + 1) HO3.out (Digs.append HL.out.2.1 (Digs.cons (show cr < 65536 by omega) (Digs.nil _)))
      obtain ⟨Am, cm, rfl, hRm, hcm⟩ := hrd
      have HRm := Lib.hid hRm
      have Hcm := Lib.hid hcm
      clear hRm hcm
      go_wp2_with fail
      refine (made_any true Am (q + 1) cm _ fr _ HRm.out (by have := HNb.out; omega) (by have := HFb.out; omega) Hcm.out).mono ?_
      rintro e w4 ⟨ng4, A4, n4, c4, E4, L4, rfl, hR4, hN4, hd4, hb⟩
      have HR4 := Lib.hid (HR3.out.next hb)
      have f0 := HR4.out.frozen 0
      have f1 := HR4.out.frozen 1
      have f2 := HR4.out.frozen 2
      obtain ⟨r0, r1, r2⟩ := cells3 HR4.out
      have HB4 := Lib.hid (below_nx HB3.out hb)
      have HRd4 := Lib.hid hR4
      have HN4 := Lib.hid hN4
      have HD4 := Lib.hid (show rdy ng4 L4 E4 = rdy true l E + rdy true l' E' from hd4.trans (by rw [HV1.out, HV2.out, dy_add, sgd_add]; exact add_val true HL.out.1 HL.out.2.2))
      clear hb hR4 hN4 hd4
      go_wp2_with fail
      obtain ⟨q0, q1, q2⟩ := cells3 (Blk.store3 HR4.out (.bool ng4) (.slice A4 n4 c4) (.int .i64 E4))
      exact bodyPost_ret (v := .agg #[.bool ng4, .slice A4 n4 c4, .int .i64 E4]) (by simp [results, Try.results17, go_sem, q0, q1, q2]) rfl (retR_done HR4.out HRd4.out HN4.out HD4.out HB4.out (by omega))

set_option maxRecDepth 100000 in
set_option maxHeartbeats 8000000 in
theorem radd_z1 (A : Option Addr) (n c : Nat) (l : List Nat) (E : Int) (A' : Option Addr) (n' c' : Nat) (l' : List Nat) (E' : Int) (w : World) (h : Rd w A n c l) (h' : Rd w A' n' c' l') (hn : n ≤ 536870912) (hn' : n' ≤ 536870912) (hE : E.natAbs ≤ 1073741824) (hE' : E'.natAbs ≤ 1073741824) (h0 : n = 0) :
    Calls Try.prog 17 #[.agg #[.bool false, .slice A n c, .int .i64 E], .agg #[.bool true, .slice A' n' c', .int .i64 E']] w (RetR (rdy false l E + rdy true l' E') w) := by
  obtain ⟨⟨fr, tz⟩, hf⟩ : ∃ ft, endsF n E n' E' = ft := ⟨_, rfl⟩
  have hfb := ends_bd hf hn hn' hE hE'
  have hends := ends_ok hf
  obtain ⟨N, hN⟩ : ∃ N : Nat, fr + N = tz := ⟨(tz - fr).toNat, by have := hends.2.2; omega⟩
  have HEn := Lib.hid (fun W => rends_any false A n c E true A' n' c' E' W (by omega) (by omega) (by omega) (by omega) fr tz hf)
  have HAt := Lib.hid (fun W (hb : Below w.heap.size w W) p (hp : p.natAbs ≤ 1099511627776) => rdat_any false A n c l E p W (h.below hb) (by omega) (by omega) hp)
  have HAt' := Lib.hid (fun W (hb : Below w.heap.size w W) p (hp : p.natAbs ≤ 1099511627776) => rdat_any true A' n' c' l' E' p W (h'.below hb) (by omega) (by omega) hp)
  have HS := Lib.hid (And.intro h.2.2.2.1 h'.2.2.2.1)
  have Hh := Lib.hid (And.intro h h')
  have HV1 := Lib.hid (show rdy false l E = dy (sgd false (dsum l E fr N)) (16 * fr) from dsum_val (by rw [← h.1]; exact hends.1) hN false)
  have HV2 := Lib.hid (show rdy true l' E' = dy (sgd true (dsum l' E' fr N)) (16 * fr) from dsum_val (by rw [← h'.1]; exact hends.2.1) hN true)
  have HFb := Lib.hid hfb
  have HNn := Lib.hid hN
  have HNb := Lib.hid (show N ≤ 4294967296 by omega)
  have HX := Lib.hid (((Blk.new w 34 #[.bool false, .slice A n c, .int .i64 E]).alloc (.cells #[.bool true, .slice A' n' c', .int .i64 E'] 34)).alloc (.cells #[.bool false, .slice none 0 0, .int .i64 0] 34))
  have HY := Lib.hid ((Blk.new_ (w.alloc (.cells #[.bool false, .slice A n c, .int .i64 E] 34)) 34 #[.bool true, .slice A' n' c', .int .i64 E'] (w.heap.size + 1) (by simp)).alloc (.cells #[.bool false, .slice none 0 0, .int .i64 0] 34))
  have HR := Lib.hid (Blk.new_ ((w.alloc (.cells #[.bool false, .slice A n c, .int .i64 E] 34)).alloc (.cells #[.bool true, .slice A' n' c', .int .i64 E'] 34)) 34 #[.bool false, .slice none 0 0, .int .i64 0] (w.heap.size + 1 + 1) (by simp))
  have HBl := Lib.hid ((((Below.refl w.heap.size w).alloc (Nat.le_refl _) (.cells #[.bool false, .slice A n c, .int .i64 E] 34)).alloc (by simp) (.cells #[.bool true, .slice A' n' c', .int .i64 E'] 34)).alloc (by simp; omega) (.cells #[.bool false, .slice none 0 0, .int .i64 0] 34))
  obtain ⟨i0, hi, hz0, hz1, hz2⟩ := info_parts info_i64
  have hn0 : ((n : Int) == 0) = true := by simp [h0]
  have hl0 : l = [] := List.eq_nil_of_length_eq_zero (by rw [← h.1]; exact h0)
  have HL0 := Lib.hid (show ∀ q, dsum l E fr q = 0 from fun q => by rw [hl0]; exact dsum_nil _ _ q)
  clear h0 hl0
  clear h h' hn hn' hE hE' hf hfb hends hN
  go_enter Try.func17, Try.ntmps17
  obtain ⟨a0, a1, a2⟩ := cells3 HX.out
  obtain ⟨b0, b1, b2⟩ := cells3 HY.out
  go_wp2_with fail
  refine (HEn.out _).mono ?_
  rintro e w1 ⟨rfl, hb⟩
  have HX1 := Lib.hid (HX.out.next hb)
  have HY1 := Lib.hid (HY.out.next hb)
  have HR1 := Lib.hid (HR.out.next hb)
  have HB1 := Lib.hid (below_nx HBl.out hb)
  have HZ1 := Lib.hid (show w.heap.size + 1 + 1 + 1 ≤ w1.heap.size by have := HR1.out.lt; omega)
  clear hb a0 a1 a2 b0 b1 b2
  obtain ⟨a0, a1, a2⟩ := cells3 HX1.out
  obtain ⟨b0, b1, b2⟩ := cells3 HY1.out
  go_wp2_with fail
  clear a0 a1 a2 b0 b1 b2
  go_loopw [7, 8, 10] (fun L cc p wr => ∃ (q cr : Nat) (Ls : List Nat), q ≤ N ∧ cr ≤ 1 ∧ cc = .int .i64 (cr : Int) ∧ p = .int .i64 (fr + (q : Int)) ∧ Hid (Ls.length = q ∧ Digs 65536 Ls ∧ ofd 65536 Ls + 65536 ^ q * cr = dsum l E fr q + dsum l' E' fr q) ∧ wr.ownsRow (w.heap.size + 1 + 1 + 1) 3 1 L q (ints Ls) ∧ Below w.heap.size w wr ∧ Blk wr w.heap.size 34 #[.bool false, .slice A n c, .int .i64 E] ∧ Blk wr (w.heap.size + 1) 34 #[.bool true, .slice A' n' c', .int .i64 E'] ∧ Blk wr (w.heap.size + 1 + 1) 34 #[.bool false, .slice none 0 0, .int .i64 0] ∧ w.heap.size + 1 + 1 + 1 ≤ wr.heap.size) (fun _ _ p _ => (tz - intOf p).toNat)
  case atStart => exact ⟨0, 0, [], Nat.zero_le _, by omega, rfl, by simp, Lib.hid ⟨rfl, Digs.nil _, by simp [ofd, dsum]⟩, World.ownsRow_nil _ _ _ _, HB1.out, HX1.out, HY1.out, HR1.out, HZ1.out⟩
  case round =>
    obtain ⟨q, cr, Ls, hq, hcr, rfl, rfl, HL, hO, hB, hX, hY, hR, hZ⟩ := hrel
    have HOr := Lib.hid hO
    have HBr := Lib.hid hB
    have HXr := Lib.hid hX
    have HYr := Lib.hid hY
    have HRr := Lib.hid hR
    have HZr := Lib.hid hZ
    clear hO hB hX hY hR hZ
    by_cases hlt : q < N
    · have hq1 : q + 1 ≤ 4294967296 := by have := HNb.out; omega
      obtain ⟨P, hP⟩ : ∃ P, fr + (q : Int) = P := ⟨_, rfl⟩
      have hp1 : wrap64 (P + 1) = P + 1 := wrap64_in (by have := HFb.out; have := HNn.out; omega)
      have hlt2 : decide (P < tz) = true := by simp; have := HNn.out; omega
      have HPb := Lib.hid (show P.natAbs ≤ 1099511627776 by have := HFb.out; have := HNn.out; omega)
      have HPP := Lib.hid hP
      rw [hP]
      obtain ⟨x, hx⟩ : ∃ x, dat l E P = x := ⟨_, rfl⟩
      obtain ⟨y, hy⟩ : ∃ y, dat l' E' P = y := ⟨_, rfl⟩
      have hx6 : x < 65536 := by rw [← hx]; exact dat_lt HS.out.1 _ _
      have hy6 : y < 65536 := by rw [← hy]; exact dat_lt HS.out.2 _ _
      have HAtP := Lib.hid (fun W (hb : Below w.heap.size w W) => HAt.out W hb P HPb.out)
      have HAtP' := Lib.hid (fun W (hb : Below w.heap.size w W) => HAt'.out W hb P HPb.out)
      rw [hx] at HAtP
      rw [hy] at HAtP'
      have HXY := Lib.hid (And.intro hx hy)
      clear hx hy hP
      obtain ⟨a0, a1, a2⟩ := cells3 HXr.out
      obtain ⟨b0, b1, b2⟩ := cells3 HYr.out
      obtain ⟨U, V, V1, V2, hU, hV, wU, wV, m1, m2, m3, m4, m5, hV21, hV1l, hV1, hV2⟩ := carry_facts hcr hx6 hy6
      have HStep := Lib.hid (show (Ls ++ [V1]).length = q + 1 ∧ Digs 65536 (Ls ++ [V1]) ∧ ofd 65536 (Ls ++ [V1]) + 65536 ^ (q + 1) * V2 = dsum l E fr (q + 1) + dsum l' E' fr (q + 1) from by
        refine ⟨by simp [HL.out.1], Digs.append HL.out.2.1 (Digs.cons hV1l (Digs.nil _)), ?_⟩
        have := carry_step (x := x) (y := y) HL.out.1 HL.out.2.2
        rw [hV1, hV2] at this
        rw [dsum, dsum, HPP.out, HXY.out.1, HXY.out.2]
        exact this)
      have HLT := Lib.hid (And.intro hlt hq)
      have HV21 := Lib.hid hV21
      clear hV1 hV2 hlt hcr hV1l hV21 hx6 hy6
      go_wp2_with fail
      refine wp_region_inv [48, 49, 50, 51, 52, 53, 54, 55, 56, 8] (fun d s W => (d 0 = true → s 48 = .int .i64 (cr : Int)) ∧ (d 1 = true → s 49 = .agg #[.bool false, .slice A n c, .int .i64 E]) ∧ (d 2 = true → s 50 = .int .i64 P) ∧ (d 3 = true → s 51 = .int .i64 (x : Int)) ∧ (d 4 = true → s 52 = .int .i64 (U : Int)) ∧ (d 5 = true → s 53 = .agg #[.bool true, .slice A' n' c', .int .i64 E']) ∧ (d 6 = true → s 54 = .int .i64 P) ∧ (d 7 = true → s 55 = .int .i64 (y : Int)) ∧ (d 8 = true → s 56 = .int .i64 (V : Int)) ∧ (d 9 = true → s 8 = .int .i64 (V : Int)) ∧ (d 9 = true → d 0 = true) ∧ (d 9 = false → s 8 = .int .i64 (cr : Int)) ∧ Below wr.heap.size wr W)
        rfl (by kernel_rfl) ?_ ?_ ?_
      · exact ⟨by simp, by simp, by simp, by simp, by simp, by simp, by simp, by simp, by simp, by simp, by simp, fun _ => by simp, (Below.refl _ _).drew⟩
      · refine ⟨?_, ?_, ?_, ?_, ?_, ?_, ?_, ?_, ?_, ?_, trivial⟩
        all_goals
          intro d s W hJ hfr hd hdep
          simp only [List.mem_cons, forall_eq_or_imp, List.not_mem_nil, false_implies, implies_true, and_true, Region.binds] at hdep
          have f2 := hfr 2 (by decide)
          have f3 := hfr 3 (by decide)
          have f10 := hfr 10 (by decide)
          simp at f2 f3 f10 hdep
          obtain ⟨h0, h1, h2, h3, h4, h5, h6, h7, h8, h9, x0, x1, hT⟩ := hJ
        · unfold OpSteps
          have e8 : d 9 = false := by
            cases h : d 9
            · rfl
            · have := x0 h; simp [hd] at this
          have f8 := x1 e8
          simp [go_sem, evS, f8]
          exact ⟨fun _ => by simp [sput], fun h => by simpa [sput] using h1 (by simpa [did] using h), fun h => by simpa [sput] using h2 (by simpa [did] using h), fun h => by simpa [sput] using h3 (by simpa [did] using h), fun h => by simpa [sput] using h4 (by simpa [did] using h), fun h => by simpa [sput] using h5 (by simpa [did] using h), fun h => by simpa [sput] using h6 (by simpa [did] using h), fun h => by simpa [sput] using h7 (by simpa [did] using h), fun h => by simpa [sput] using h8 (by simpa [did] using h), fun h => by simpa [sput] using h9 (by simpa [did] using h), fun h => by have := x0 (by simpa [did] using h); simp [did, this], fun h => by simpa [sput] using x1 (by simpa [did] using h), hT⟩
        · unfold OpSteps
          obtain ⟨p0, p1, p2⟩ := cells3 (HXr.out.below hT HXr.out.lt)
          simp [go_sem, evS, f2, p0, p1, p2]
          exact ⟨fun h => by simpa [sput] using h0 (by simpa [did] using h), fun _ => by simp [sput], fun h => by simpa [sput] using h2 (by simpa [did] using h), fun h => by simpa [sput] using h3 (by simpa [did] using h), fun h => by simpa [sput] using h4 (by simpa [did] using h), fun h => by simpa [sput] using h5 (by simpa [did] using h), fun h => by simpa [sput] using h6 (by simpa [did] using h), fun h => by simpa [sput] using h7 (by simpa [did] using h), fun h => by simpa [sput] using h8 (by simpa [did] using h), fun h => by simpa [sput] using h9 (by simpa [did] using h), fun h => by have := x0 (by simpa [did] using h); simp [did, this], fun h => by simpa [sput] using x1 (by simpa [did] using h), hT⟩
        · unfold OpSteps
          simp [go_sem, evS, f10]
          exact ⟨fun h => by simpa [sput] using h0 (by simpa [did] using h), fun h => by simpa [sput] using h1 (by simpa [did] using h), fun _ => by simp [sput], fun h => by simpa [sput] using h3 (by simpa [did] using h), fun h => by simpa [sput] using h4 (by simpa [did] using h), fun h => by simpa [sput] using h5 (by simpa [did] using h), fun h => by simpa [sput] using h6 (by simpa [did] using h), fun h => by simpa [sput] using h7 (by simpa [did] using h), fun h => by simpa [sput] using h8 (by simpa [did] using h), fun h => by simpa [sput] using h9 (by simpa [did] using h), fun h => by have := x0 (by simpa [did] using h); simp [did, this], fun h => by simpa [sput] using x1 (by simpa [did] using h), hT⟩
        · have fz1 := h1 (by simp [hdep])
          have fz2 := h2 (by simp [hdep])
          unfold OpSteps
          simp [go_sem, evS, fz1, fz2]
          refine (HAtP.out W (below_nx HBr.out hT)).mono ?_
          rintro e W' ⟨rfl, hb⟩
          refine ⟨_, rfl, ?_⟩
          exact ⟨fun h => by simpa [sput] using h0 (by simpa [did] using h), fun h => by simpa [sput] using h1 (by simpa [did] using h), fun h => by simpa [sput] using h2 (by simpa [did] using h), fun _ => by simp [sput], fun h => by simpa [sput] using h4 (by simpa [did] using h), fun h => by simpa [sput] using h5 (by simpa [did] using h), fun h => by simpa [sput] using h6 (by simpa [did] using h), fun h => by simpa [sput] using h7 (by simpa [did] using h), fun h => by simpa [sput] using h8 (by simpa [did] using h), fun h => by simpa [sput] using h9 (by simpa [did] using h), fun h => by have := x0 (by simpa [did] using h); simp [did, this], fun h => by simpa [sput] using x1 (by simpa [did] using h), below_nx hT hb⟩
        · have fz0 := h0 (by simp [hdep])
          have fz3 := h3 (by simp [hdep])
          unfold OpSteps
          simp [go_sem, evS, fz0, fz3, hU, wU]
          exact ⟨fun h => by simpa [sput] using h0 (by simpa [did] using h), fun h => by simpa [sput] using h1 (by simpa [did] using h), fun h => by simpa [sput] using h2 (by simpa [did] using h), fun h => by simpa [sput] using h3 (by simpa [did] using h), fun _ => by simp [sput], fun h => by simpa [sput] using h5 (by simpa [did] using h), fun h => by simpa [sput] using h6 (by simpa [did] using h), fun h => by simpa [sput] using h7 (by simpa [did] using h), fun h => by simpa [sput] using h8 (by simpa [did] using h), fun h => by simpa [sput] using h9 (by simpa [did] using h), fun h => by have := x0 (by simpa [did] using h); simp [did, this], fun h => by simpa [sput] using x1 (by simpa [did] using h), hT⟩
        · unfold OpSteps
          obtain ⟨p0, p1, p2⟩ := cells3 (HYr.out.below hT HYr.out.lt)
          simp [go_sem, evS, f3, p0, p1, p2]
          exact ⟨fun h => by simpa [sput] using h0 (by simpa [did] using h), fun h => by simpa [sput] using h1 (by simpa [did] using h), fun h => by simpa [sput] using h2 (by simpa [did] using h), fun h => by simpa [sput] using h3 (by simpa [did] using h), fun h => by simpa [sput] using h4 (by simpa [did] using h), fun _ => by simp [sput], fun h => by simpa [sput] using h6 (by simpa [did] using h), fun h => by simpa [sput] using h7 (by simpa [did] using h), fun h => by simpa [sput] using h8 (by simpa [did] using h), fun h => by simpa [sput] using h9 (by simpa [did] using h), fun h => by have := x0 (by simpa [did] using h); simp [did, this], fun h => by simpa [sput] using x1 (by simpa [did] using h), hT⟩
        · unfold OpSteps
          simp [go_sem, evS, f10]
          exact ⟨fun h => by simpa [sput] using h0 (by simpa [did] using h), fun h => by simpa [sput] using h1 (by simpa [did] using h), fun h => by simpa [sput] using h2 (by simpa [did] using h), fun h => by simpa [sput] using h3 (by simpa [did] using h), fun h => by simpa [sput] using h4 (by simpa [did] using h), fun h => by simpa [sput] using h5 (by simpa [did] using h), fun _ => by simp [sput], fun h => by simpa [sput] using h7 (by simpa [did] using h), fun h => by simpa [sput] using h8 (by simpa [did] using h), fun h => by simpa [sput] using h9 (by simpa [did] using h), fun h => by have := x0 (by simpa [did] using h); simp [did, this], fun h => by simpa [sput] using x1 (by simpa [did] using h), hT⟩
        · have fz5 := h5 (by simp [hdep])
          have fz6 := h6 (by simp [hdep])
          unfold OpSteps
          simp [go_sem, evS, fz5, fz6]
          refine (HAtP'.out W (below_nx HBr.out hT)).mono ?_
          rintro e W' ⟨rfl, hb⟩
          refine ⟨_, rfl, ?_⟩
          exact ⟨fun h => by simpa [sput] using h0 (by simpa [did] using h), fun h => by simpa [sput] using h1 (by simpa [did] using h), fun h => by simpa [sput] using h2 (by simpa [did] using h), fun h => by simpa [sput] using h3 (by simpa [did] using h), fun h => by simpa [sput] using h4 (by simpa [did] using h), fun h => by simpa [sput] using h5 (by simpa [did] using h), fun h => by simpa [sput] using h6 (by simpa [did] using h), fun _ => by simp [sput], fun h => by simpa [sput] using h8 (by simpa [did] using h), fun h => by simpa [sput] using h9 (by simpa [did] using h), fun h => by have := x0 (by simpa [did] using h); simp [did, this], fun h => by simpa [sput] using x1 (by simpa [did] using h), below_nx hT hb⟩
        · have fz4 := h4 (by simp [hdep])
          have fz7 := h7 (by simp [hdep])
          unfold OpSteps
          simp [go_sem, evS, fz4, fz7, hV, wV]
          exact ⟨fun h => by simpa [sput] using h0 (by simpa [did] using h), fun h => by simpa [sput] using h1 (by simpa [did] using h), fun h => by simpa [sput] using h2 (by simpa [did] using h), fun h => by simpa [sput] using h3 (by simpa [did] using h), fun h => by simpa [sput] using h4 (by simpa [did] using h), fun h => by simpa [sput] using h5 (by simpa [did] using h), fun h => by simpa [sput] using h6 (by simpa [did] using h), fun h => by simpa [sput] using h7 (by simpa [did] using h), fun _ => by simp [sput], fun h => by simpa [sput] using h9 (by simpa [did] using h), fun h => by have := x0 (by simpa [did] using h); simp [did, this], fun h => by simpa [sput] using x1 (by simpa [did] using h), hT⟩
        · have fz8 := h8 (by simp [hdep])
          unfold OpSteps
          simp [go_sem, evS, fz8]
          exact ⟨fun h => by simpa [sput] using h0 (by simpa [did] using h), fun h => by simpa [sput] using h1 (by simpa [did] using h), fun h => by simpa [sput] using h2 (by simpa [did] using h), fun h => by simpa [sput] using h3 (by simpa [did] using h), fun h => by simpa [sput] using h4 (by simpa [did] using h), fun h => by simpa [sput] using h5 (by simpa [did] using h), fun h => by simpa [sput] using h6 (by simpa [did] using h), fun h => by simpa [sput] using h7 (by simpa [did] using h), fun h => by simpa [sput] using h8 (by simpa [did] using h), fun _ => by simp [sput], fun _ => by first | simp [did, hdep] | (have := x0 (by simp [hdep]); simp [did, this]), fun h => by simp [did] at h, hT⟩
      intro d s W hJ hd
      obtain ⟨h0, h1, h2, h3, h4, h5, h6, h7, h8, h9, x0, x1, hT⟩ := hJ
      have hs8 := h9 (hd 9 (by decide))
      have hb : Below wr.heap.size wr W := hT
      clear h0 h1 h2 h3 h4 h5 h6 h7 h8 h9 x0 x1 hT hd
      simp [setAll, hs8]
      clear hs8
      generalize s 48 = s48
      generalize s 49 = s49
      generalize s 50 = s50
      generalize s 51 = s51
      generalize s 52 = s52
      generalize s 53 = s53
      generalize s 54 = s54
      generalize s 55 = s55
      generalize s 56 = s56
      have HX2 := Lib.hid (HXr.out.next hb)
      have HY2 := Lib.hid (HYr.out.next hb)
      have HR2 := Lib.hid (HRr.out.next hb)
      have HB2 := Lib.hid (below_nx HBr.out hb)
      have HZ2 := Lib.hid (Nat.le_trans HZr.out hb.size)
      have HO2 := Lib.hid (ownsRow_below HOr.out hb)
      clear hb a0 a1 a2 b0 b1 b2
      generalize W = w2 at *
      clear hU hV wU wV hlt2
      have HOaa := Lib.hid (HO2.out.alloc (.cells #[.int .i64 (V1 : Int)] 3))
      go_wp2_with (at_builtin; refine wpList_append_own _ rfl _ _ 32 rfl (w.heap.size + 1 + 1 + 1) 3 i0 (.int .i64 0) 1 8 Try.underlying32 hi hz0 hz1 hz2 rfl (by decide) _ q (ints Ls) rfl HOaa.out ⟨w2.heap.size, 0, none⟩ 1 1 [.int .i64 (V1 : Int)] rfl rfl ?c1a (by intro u hu; simp at hu; subst hu; rfl) ?c3a ?c4a ?c5a ?_)
      case c1a => exact cell_one_new _ _ _
      case c3a => unfold maxLen; have := HNb.out; omega
      case c4a => have := HNb.out; omega
      case c5a => (try simp); have := HZ2.out; omega
      intro v' w3 hown' hgrow _
      have hal := (Below.refl w2.heap.size w2).alloc (Nat.le_refl _) (.cells #[.int .i64 (V1 : Int)] 3)
      have hgx : ∀ k, k < w.heap.size + 1 + 1 + 1 → w3.heap[k]? = w2.heap[k]? := fun k hk => (hgrow.block k (by simp; have := HZ2.out; omega) (fun e => by have := (HOaa.out.lt k e.symm).1; omega)).trans (hal.block k (by have := HZ2.out; omega))
      have HX3 := Lib.hid (show Blk w3 w.heap.size 34 _ from (hgx _ (by omega)).trans HX2.out)
      have HY3 := Lib.hid (show Blk w3 (w.heap.size + 1) 34 _ from (hgx _ (by omega)).trans HY2.out)
      have HR3 := Lib.hid (show Blk w3 (w.heap.size + 1 + 1) 34 _ from (hgx _ (by omega)).trans HR2.out)
      have HB3 := Lib.hid ((below_nx HB2.out hal).grown hgrow (by simp; have := HZ2.out; omega) (fun k hk => by have := (HOaa.out.lt k hk).1; omega))
      have HZ3 := Lib.hid (show w.heap.size + 1 + 1 + 1 ≤ w3.heap.size by have := hgrow.size; have := HZ2.out; simp at *; omega)
      have HO3 := Lib.hid (show w3.ownsRow (w.heap.size + 1 + 1 + 1) 3 1 v' (q + 1) (ints (Ls ++ [V1])) by rw [ints_snoc]; exact hown')
      clear hown' hgrow hal hgx
      go_wp2_with fail
      go_roundw
      case rel => exact ⟨q + 1, V2, Ls ++ [V1], by have := HLT.out.1; omega, HV21.out, by rw [m5], congrArg (Value.int .i64) (by have := HPP.out; rw [hp1]; omega), HStep, HO3.out, HB3.out, HX3.out, HY3.out, HR3.out, HZ3.out⟩
      case measure => have := HPP.out; have := HLT.out.1; have := HNn.out; simp [intOf]; omega
    · obtain rfl : q = N := by omega
      have hlt2 : decide (fr + (q : Int) < tz) = false := by simp; have := HNn.out; omega
      have HX2 := HXr
      have HY2 := HYr
      have HR2 := HRr
      have HB2 := HBr
      have HZ2 := HZr
      have HO2 := HOr
      generalize wr = w2 at *
      have HOab := Lib.hid (HO2.out.alloc (.cells #[.int .i64 (cr : Int)] 3))
      go_wp2_with (at_builtin; refine wpList_append_own _ rfl _ _ 32 rfl (w.heap.size + 1 + 1 + 1) 3 i0 (.int .i64 0) 1 8 Try.underlying32 hi hz0 hz1 hz2 rfl (by decide) _ q (ints Ls) rfl HOab.out ⟨w2.heap.size, 0, none⟩ 1 1 [.int .i64 (cr : Int)] rfl rfl ?c1b (by intro u hu; simp at hu; subst hu; rfl) ?c3b ?c4b ?c5b ?_)
      case c1b => exact cell_one_new _ _ _
      case c3b => unfold maxLen; have := HNb.out; omega
      case c4b => have := HNb.out; omega
      case c5b => (try simp); have := HZ2.out; omega
      intro v' w3 hown' hgrow _
      have hal := (Below.refl w2.heap.size w2).alloc (Nat.le_refl _) (.cells #[.int .i64 (cr : Int)] 3)
      have hgx : ∀ k, k < w.heap.size + 1 + 1 + 1 → w3.heap[k]? = w2.heap[k]? := fun k hk => (hgrow.block k (by simp; have := HZ2.out; omega) (fun e => by have := (HOab.out.lt k e.symm).1; omega)).trans (hal.block k (by have := HZ2.out; omega))
      have HX3 := Lib.hid (show Blk w3 w.heap.size 34 _ from (hgx _ (by omega)).trans HX2.out)
      have HY3 := Lib.hid (show Blk w3 (w.heap.size + 1) 34 _ from (hgx _ (by omega)).trans HY2.out)
      have HR3 := Lib.hid (show Blk w3 (w.heap.size + 1 + 1) 34 _ from (hgx _ (by omega)).trans HR2.out)
      have HB3 := Lib.hid ((below_nx HB2.out hal).grown hgrow (by simp; have := HZ2.out; omega) (fun k hk => by have := (HOab.out.lt k hk).1; omega))
      have HZ3 := Lib.hid (show w.heap.size + 1 + 1 + 1 ≤ w3.heap.size by have := hgrow.size; have := HZ2.out; simp at *; omega)
      have HO3 := Lib.hid (show w3.ownsRow (w.heap.size + 1 + 1 + 1) 3 1 v' (q + 1) (ints (Ls ++ [cr])) by rw [ints_snoc]; exact hown')
      clear hown' hgrow hal hgx

      have hrd := own_rd (n := q + 1) HO3.out (Digs.append HL.out.2.1 (Digs.cons (show cr < 65536 by omega) (Digs.nil _)))
      obtain ⟨Am, cm, rfl, hRm, hcm⟩ := hrd
      have HRm := Lib.hid hRm
      have Hcm := Lib.hid hcm
      clear hRm hcm
      go_wp2_with fail
      refine (made_any true Am (q + 1) cm _ fr _ HRm.out (by have := HNb.out; omega) (by have := HFb.out; omega) Hcm.out).mono ?_
      rintro e w4 ⟨ng4, A4, n4, c4, E4, L4, rfl, hR4, hN4, hd4, hb⟩
      have HR4 := Lib.hid (HR3.out.next hb)
      have f0 := HR4.out.frozen 0
      have f1 := HR4.out.frozen 1
      have f2 := HR4.out.frozen 2
      obtain ⟨r0, r1, r2⟩ := cells3 HR4.out
      have HB4 := Lib.hid (below_nx HB3.out hb)
      have HRd4 := Lib.hid hR4
      have HN4 := Lib.hid hN4
      have HD4 := Lib.hid (show rdy ng4 L4 E4 = rdy false l E + rdy true l' E' from hd4.trans (by rw [HV1.out, HV2.out, dy_add, HL0.out, sgd_zero, Int.zero_add]; have := add_val true (fr := fr) HL.out.1 HL.out.2.2; rw [HL0.out, Nat.zero_add] at this; exact this))
      clear hb hR4 hN4 hd4
      go_wp2_with fail
      obtain ⟨q0, q1, q2⟩ := cells3 (Blk.store3 HR4.out (.bool ng4) (.slice A4 n4 c4) (.int .i64 E4))
      exact bodyPost_ret (v := .agg #[.bool ng4, .slice A4 n4 c4, .int .i64 E4]) (by simp [results, Try.results17, go_sem, q0, q1, q2]) rfl (retR_done HR4.out HRd4.out HN4.out HD4.out HB4.out (by omega))

set_option maxRecDepth 100000 in
set_option maxHeartbeats 8000000 in
theorem radd_z2 (A : Option Addr) (n c : Nat) (l : List Nat) (E : Int) (A' : Option Addr) (n' c' : Nat) (l' : List Nat) (E' : Int) (w : World) (h : Rd w A n c l) (h' : Rd w A' n' c' l') (hn : n ≤ 536870912) (hn' : n' ≤ 536870912) (hE : E.natAbs ≤ 1073741824) (hE' : E'.natAbs ≤ 1073741824) (h0 : n' = 0) (h1 : n ≠ 0) :
    Calls Try.prog 17 #[.agg #[.bool true, .slice A n c, .int .i64 E], .agg #[.bool false, .slice A' n' c', .int .i64 E']] w (RetR (rdy true l E + rdy false l' E') w) := by
  obtain ⟨⟨fr, tz⟩, hf⟩ : ∃ ft, endsF n E n' E' = ft := ⟨_, rfl⟩
  have hfb := ends_bd hf hn hn' hE hE'
  have hends := ends_ok hf
  obtain ⟨N, hN⟩ : ∃ N : Nat, fr + N = tz := ⟨(tz - fr).toNat, by have := hends.2.2; omega⟩
  have HEn := Lib.hid (fun W => rends_any true A n c E false A' n' c' E' W (by omega) (by omega) (by omega) (by omega) fr tz hf)
  have HAt := Lib.hid (fun W (hb : Below w.heap.size w W) p (hp : p.natAbs ≤ 1099511627776) => rdat_any true A n c l E p W (h.below hb) (by omega) (by omega) hp)
  have HAt' := Lib.hid (fun W (hb : Below w.heap.size w W) p (hp : p.natAbs ≤ 1099511627776) => rdat_any false A' n' c' l' E' p W (h'.below hb) (by omega) (by omega) hp)
  have HS := Lib.hid (And.intro h.2.2.2.1 h'.2.2.2.1)
  have Hh := Lib.hid (And.intro h h')
  have HV1 := Lib.hid (show rdy true l E = dy (sgd true (dsum l E fr N)) (16 * fr) from dsum_val (by rw [← h.1]; exact hends.1) hN true)
  have HV2 := Lib.hid (show rdy false l' E' = dy (sgd false (dsum l' E' fr N)) (16 * fr) from dsum_val (by rw [← h'.1]; exact hends.2.1) hN false)
  have HFb := Lib.hid hfb
  have HNn := Lib.hid hN
  have HNb := Lib.hid (show N ≤ 4294967296 by omega)
  have HX := Lib.hid (((Blk.new w 34 #[.bool true, .slice A n c, .int .i64 E]).alloc (.cells #[.bool false, .slice A' n' c', .int .i64 E'] 34)).alloc (.cells #[.bool false, .slice none 0 0, .int .i64 0] 34))
  have HY := Lib.hid ((Blk.new_ (w.alloc (.cells #[.bool true, .slice A n c, .int .i64 E] 34)) 34 #[.bool false, .slice A' n' c', .int .i64 E'] (w.heap.size + 1) (by simp)).alloc (.cells #[.bool false, .slice none 0 0, .int .i64 0] 34))
  have HR := Lib.hid (Blk.new_ ((w.alloc (.cells #[.bool true, .slice A n c, .int .i64 E] 34)).alloc (.cells #[.bool false, .slice A' n' c', .int .i64 E'] 34)) 34 #[.bool false, .slice none 0 0, .int .i64 0] (w.heap.size + 1 + 1) (by simp))
  have HBl := Lib.hid ((((Below.refl w.heap.size w).alloc (Nat.le_refl _) (.cells #[.bool true, .slice A n c, .int .i64 E] 34)).alloc (by simp) (.cells #[.bool false, .slice A' n' c', .int .i64 E'] 34)).alloc (by simp; omega) (.cells #[.bool false, .slice none 0 0, .int .i64 0] 34))
  obtain ⟨i0, hi, hz0, hz1, hz2⟩ := info_parts info_i64
  have hn1 : ((n : Int) == 0) = false := by simp; omega
  have hn0 : ((n' : Int) == 0) = true := by simp [h0]
  have hl0 : l' = [] := List.eq_nil_of_length_eq_zero (by rw [← h'.1]; exact h0)
  have HL0 := Lib.hid (show ∀ q, dsum l' E' fr q = 0 from fun q => by rw [hl0]; exact dsum_nil _ _ q)
  clear h0 hl0 h1
  clear h h' hn hn' hE hE' hf hfb hends hN
  go_enter Try.func17, Try.ntmps17
  obtain ⟨a0, a1, a2⟩ := cells3 HX.out
  obtain ⟨b0, b1, b2⟩ := cells3 HY.out
  go_wp2_with fail
  refine (HEn.out _).mono ?_
  rintro e w1 ⟨rfl, hb⟩
  have HX1 := Lib.hid (HX.out.next hb)
  have HY1 := Lib.hid (HY.out.next hb)
  have HR1 := Lib.hid (HR.out.next hb)
  have HB1 := Lib.hid (below_nx HBl.out hb)
  have HZ1 := Lib.hid (show w.heap.size + 1 + 1 + 1 ≤ w1.heap.size by have := HR1.out.lt; omega)
  clear hb a0 a1 a2 b0 b1 b2
  obtain ⟨a0, a1, a2⟩ := cells3 HX1.out
  obtain ⟨b0, b1, b2⟩ := cells3 HY1.out
  go_wp2_with fail
  clear a0 a1 a2 b0 b1 b2
  go_loopw [7, 8, 10] (fun L cc p wr => ∃ (q cr : Nat) (Ls : List Nat), q ≤ N ∧ cr ≤ 1 ∧ cc = .int .i64 (cr : Int) ∧ p = .int .i64 (fr + (q : Int)) ∧ Hid (Ls.length = q ∧ Digs 65536 Ls ∧ ofd 65536 Ls + 65536 ^ q * cr = dsum l E fr q + dsum l' E' fr q) ∧ wr.ownsRow (w.heap.size + 1 + 1 + 1) 3 1 L q (ints Ls) ∧ Below w.heap.size w wr ∧ Blk wr w.heap.size 34 #[.bool true, .slice A n c, .int .i64 E] ∧ Blk wr (w.heap.size + 1) 34 #[.bool false, .slice A' n' c', .int .i64 E'] ∧ Blk wr (w.heap.size + 1 + 1) 34 #[.bool false, .slice none 0 0, .int .i64 0] ∧ w.heap.size + 1 + 1 + 1 ≤ wr.heap.size) (fun _ _ p _ => (tz - intOf p).toNat)
  case atStart => exact ⟨0, 0, [], Nat.zero_le _, by omega, rfl, by simp, Lib.hid ⟨rfl, Digs.nil _, by simp [ofd, dsum]⟩, World.ownsRow_nil _ _ _ _, HB1.out, HX1.out, HY1.out, HR1.out, HZ1.out⟩
  case round =>
    obtain ⟨q, cr, Ls, hq, hcr, rfl, rfl, HL, hO, hB, hX, hY, hR, hZ⟩ := hrel
    have HOr := Lib.hid hO
    have HBr := Lib.hid hB
    have HXr := Lib.hid hX
    have HYr := Lib.hid hY
    have HRr := Lib.hid hR
    have HZr := Lib.hid hZ
    clear hO hB hX hY hR hZ
    by_cases hlt : q < N
    · have hq1 : q + 1 ≤ 4294967296 := by have := HNb.out; omega
      obtain ⟨P, hP⟩ : ∃ P, fr + (q : Int) = P := ⟨_, rfl⟩
      have hp1 : wrap64 (P + 1) = P + 1 := wrap64_in (by have := HFb.out; have := HNn.out; omega)
      have hlt2 : decide (P < tz) = true := by simp; have := HNn.out; omega
      have HPb := Lib.hid (show P.natAbs ≤ 1099511627776 by have := HFb.out; have := HNn.out; omega)
      have HPP := Lib.hid hP
      rw [hP]
      obtain ⟨x, hx⟩ : ∃ x, dat l E P = x := ⟨_, rfl⟩
      obtain ⟨y, hy⟩ : ∃ y, dat l' E' P = y := ⟨_, rfl⟩
      have hx6 : x < 65536 := by rw [← hx]; exact dat_lt HS.out.1 _ _
      have hy6 : y < 65536 := by rw [← hy]; exact dat_lt HS.out.2 _ _
      have HAtP := Lib.hid (fun W (hb : Below w.heap.size w W) => HAt.out W hb P HPb.out)
      have HAtP' := Lib.hid (fun W (hb : Below w.heap.size w W) => HAt'.out W hb P HPb.out)
      rw [hx] at HAtP
      rw [hy] at HAtP'
      have HXY := Lib.hid (And.intro hx hy)
      clear hx hy hP
      obtain ⟨a0, a1, a2⟩ := cells3 HXr.out
      obtain ⟨b0, b1, b2⟩ := cells3 HYr.out
      obtain ⟨U, V, V1, V2, hU, hV, wU, wV, m1, m2, m3, m4, m5, hV21, hV1l, hV1, hV2⟩ := carry_facts hcr hx6 hy6
      have HStep := Lib.hid (show (Ls ++ [V1]).length = q + 1 ∧ Digs 65536 (Ls ++ [V1]) ∧ ofd 65536 (Ls ++ [V1]) + 65536 ^ (q + 1) * V2 = dsum l E fr (q + 1) + dsum l' E' fr (q + 1) from by
        refine ⟨by simp [HL.out.1], Digs.append HL.out.2.1 (Digs.cons hV1l (Digs.nil _)), ?_⟩
        have := carry_step (x := x) (y := y) HL.out.1 HL.out.2.2
        rw [hV1, hV2] at this
        rw [dsum, dsum, HPP.out, HXY.out.1, HXY.out.2]
        exact this)
      have HLT := Lib.hid (And.intro hlt hq)
      have HV21 := Lib.hid hV21
      clear hV1 hV2 hlt hcr hV1l hV21 hx6 hy6
      go_wp2_with fail
      refine wp_region_inv [48, 49, 50, 51, 52, 53, 54, 55, 56, 8] (fun d s W => (d 0 = true → s 48 = .int .i64 (cr : Int)) ∧ (d 1 = true → s 49 = .agg #[.bool true, .slice A n c, .int .i64 E]) ∧ (d 2 = true → s 50 = .int .i64 P) ∧ (d 3 = true → s 51 = .int .i64 (x : Int)) ∧ (d 4 = true → s 52 = .int .i64 (U : Int)) ∧ (d 5 = true → s 53 = .agg #[.bool false, .slice A' n' c', .int .i64 E']) ∧ (d 6 = true → s 54 = .int .i64 P) ∧ (d 7 = true → s 55 = .int .i64 (y : Int)) ∧ (d 8 = true → s 56 = .int .i64 (V : Int)) ∧ (d 9 = true → s 8 = .int .i64 (V : Int)) ∧ (d 9 = true → d 0 = true) ∧ (d 9 = false → s 8 = .int .i64 (cr : Int)) ∧ Below wr.heap.size wr W)
        rfl (by kernel_rfl) ?_ ?_ ?_
      · exact ⟨by simp, by simp, by simp, by simp, by simp, by simp, by simp, by simp, by simp, by simp, by simp, fun _ => by simp, (Below.refl _ _).drew⟩
      · refine ⟨?_, ?_, ?_, ?_, ?_, ?_, ?_, ?_, ?_, ?_, trivial⟩
        all_goals
          intro d s W hJ hfr hd hdep
          simp only [List.mem_cons, forall_eq_or_imp, List.not_mem_nil, false_implies, implies_true, and_true, Region.binds] at hdep
          have f2 := hfr 2 (by decide)
          have f3 := hfr 3 (by decide)
          have f10 := hfr 10 (by decide)
          simp at f2 f3 f10 hdep
          obtain ⟨h0, h1, h2, h3, h4, h5, h6, h7, h8, h9, x0, x1, hT⟩ := hJ
        · unfold OpSteps
          have e8 : d 9 = false := by
            cases h : d 9
            · rfl
            · have := x0 h; simp [hd] at this
          have f8 := x1 e8
          simp [go_sem, evS, f8]
          exact ⟨fun _ => by simp [sput], fun h => by simpa [sput] using h1 (by simpa [did] using h), fun h => by simpa [sput] using h2 (by simpa [did] using h), fun h => by simpa [sput] using h3 (by simpa [did] using h), fun h => by simpa [sput] using h4 (by simpa [did] using h), fun h => by simpa [sput] using h5 (by simpa [did] using h), fun h => by simpa [sput] using h6 (by simpa [did] using h), fun h => by simpa [sput] using h7 (by simpa [did] using h), fun h => by simpa [sput] using h8 (by simpa [did] using h), fun h => by simpa [sput] using h9 (by simpa [did] using h), fun h => by have := x0 (by simpa [did] using h); simp [did, this], fun h => by simpa [sput] using x1 (by simpa [did] using h), hT⟩
        · unfold OpSteps
          obtain ⟨p0, p1, p2⟩ := cells3 (HXr.out.below hT HXr.out.lt)
          simp [go_sem, evS, f2, p0, p1, p2]
          exact ⟨fun h => by simpa [sput] using h0 (by simpa [did] using h), fun _ => by simp [sput], fun h => by simpa [sput] using h2 (by simpa [did] using h), fun h => by simpa [sput] using h3 (by simpa [did] using h), fun h => by simpa [sput] using h4 (by simpa [did] using h), fun h => by simpa [sput] using h5 (by simpa [did] using h), fun h => by simpa [sput] using h6 (by simpa [did] using h), fun h => by simpa [sput] using h7 (by simpa [did] using h), fun h => by simpa [sput] using h8 (by simpa [did] using h), fun h => by simpa [sput] using h9 (by simpa [did] using h), fun h => by have := x0 (by simpa [did] using h); simp [did, this], fun h => by simpa [sput] using x1 (by simpa [did] using h), hT⟩
        · unfold OpSteps
          simp [go_sem, evS, f10]
          exact ⟨fun h => by simpa [sput] using h0 (by simpa [did] using h), fun h => by simpa [sput] using h1 (by simpa [did] using h), fun _ => by simp [sput], fun h => by simpa [sput] using h3 (by simpa [did] using h), fun h => by simpa [sput] using h4 (by simpa [did] using h), fun h => by simpa [sput] using h5 (by simpa [did] using h), fun h => by simpa [sput] using h6 (by simpa [did] using h), fun h => by simpa [sput] using h7 (by simpa [did] using h), fun h => by simpa [sput] using h8 (by simpa [did] using h), fun h => by simpa [sput] using h9 (by simpa [did] using h), fun h => by have := x0 (by simpa [did] using h); simp [did, this], fun h => by simpa [sput] using x1 (by simpa [did] using h), hT⟩
        · have fz1 := h1 (by simp [hdep])
          have fz2 := h2 (by simp [hdep])
          unfold OpSteps
          simp [go_sem, evS, fz1, fz2]
          refine (HAtP.out W (below_nx HBr.out hT)).mono ?_
          rintro e W' ⟨rfl, hb⟩
          refine ⟨_, rfl, ?_⟩
          exact ⟨fun h => by simpa [sput] using h0 (by simpa [did] using h), fun h => by simpa [sput] using h1 (by simpa [did] using h), fun h => by simpa [sput] using h2 (by simpa [did] using h), fun _ => by simp [sput], fun h => by simpa [sput] using h4 (by simpa [did] using h), fun h => by simpa [sput] using h5 (by simpa [did] using h), fun h => by simpa [sput] using h6 (by simpa [did] using h), fun h => by simpa [sput] using h7 (by simpa [did] using h), fun h => by simpa [sput] using h8 (by simpa [did] using h), fun h => by simpa [sput] using h9 (by simpa [did] using h), fun h => by have := x0 (by simpa [did] using h); simp [did, this], fun h => by simpa [sput] using x1 (by simpa [did] using h), below_nx hT hb⟩
        · have fz0 := h0 (by simp [hdep])
          have fz3 := h3 (by simp [hdep])
          unfold OpSteps
          simp [go_sem, evS, fz0, fz3, hU, wU]
          exact ⟨fun h => by simpa [sput] using h0 (by simpa [did] using h), fun h => by simpa [sput] using h1 (by simpa [did] using h), fun h => by simpa [sput] using h2 (by simpa [did] using h), fun h => by simpa [sput] using h3 (by simpa [did] using h), fun _ => by simp [sput], fun h => by simpa [sput] using h5 (by simpa [did] using h), fun h => by simpa [sput] using h6 (by simpa [did] using h), fun h => by simpa [sput] using h7 (by simpa [did] using h), fun h => by simpa [sput] using h8 (by simpa [did] using h), fun h => by simpa [sput] using h9 (by simpa [did] using h), fun h => by have := x0 (by simpa [did] using h); simp [did, this], fun h => by simpa [sput] using x1 (by simpa [did] using h), hT⟩
        · unfold OpSteps
          obtain ⟨p0, p1, p2⟩ := cells3 (HYr.out.below hT HYr.out.lt)
          simp [go_sem, evS, f3, p0, p1, p2]
          exact ⟨fun h => by simpa [sput] using h0 (by simpa [did] using h), fun h => by simpa [sput] using h1 (by simpa [did] using h), fun h => by simpa [sput] using h2 (by simpa [did] using h), fun h => by simpa [sput] using h3 (by simpa [did] using h), fun h => by simpa [sput] using h4 (by simpa [did] using h), fun _ => by simp [sput], fun h => by simpa [sput] using h6 (by simpa [did] using h), fun h => by simpa [sput] using h7 (by simpa [did] using h), fun h => by simpa [sput] using h8 (by simpa [did] using h), fun h => by simpa [sput] using h9 (by simpa [did] using h), fun h => by have := x0 (by simpa [did] using h); simp [did, this], fun h => by simpa [sput] using x1 (by simpa [did] using h), hT⟩
        · unfold OpSteps
          simp [go_sem, evS, f10]
          exact ⟨fun h => by simpa [sput] using h0 (by simpa [did] using h), fun h => by simpa [sput] using h1 (by simpa [did] using h), fun h => by simpa [sput] using h2 (by simpa [did] using h), fun h => by simpa [sput] using h3 (by simpa [did] using h), fun h => by simpa [sput] using h4 (by simpa [did] using h), fun h => by simpa [sput] using h5 (by simpa [did] using h), fun _ => by simp [sput], fun h => by simpa [sput] using h7 (by simpa [did] using h), fun h => by simpa [sput] using h8 (by simpa [did] using h), fun h => by simpa [sput] using h9 (by simpa [did] using h), fun h => by have := x0 (by simpa [did] using h); simp [did, this], fun h => by simpa [sput] using x1 (by simpa [did] using h), hT⟩
        · have fz5 := h5 (by simp [hdep])
          have fz6 := h6 (by simp [hdep])
          unfold OpSteps
          simp [go_sem, evS, fz5, fz6]
          refine (HAtP'.out W (below_nx HBr.out hT)).mono ?_
          rintro e W' ⟨rfl, hb⟩
          refine ⟨_, rfl, ?_⟩
          exact ⟨fun h => by simpa [sput] using h0 (by simpa [did] using h), fun h => by simpa [sput] using h1 (by simpa [did] using h), fun h => by simpa [sput] using h2 (by simpa [did] using h), fun h => by simpa [sput] using h3 (by simpa [did] using h), fun h => by simpa [sput] using h4 (by simpa [did] using h), fun h => by simpa [sput] using h5 (by simpa [did] using h), fun h => by simpa [sput] using h6 (by simpa [did] using h), fun _ => by simp [sput], fun h => by simpa [sput] using h8 (by simpa [did] using h), fun h => by simpa [sput] using h9 (by simpa [did] using h), fun h => by have := x0 (by simpa [did] using h); simp [did, this], fun h => by simpa [sput] using x1 (by simpa [did] using h), below_nx hT hb⟩
        · have fz4 := h4 (by simp [hdep])
          have fz7 := h7 (by simp [hdep])
          unfold OpSteps
          simp [go_sem, evS, fz4, fz7, hV, wV]
          exact ⟨fun h => by simpa [sput] using h0 (by simpa [did] using h), fun h => by simpa [sput] using h1 (by simpa [did] using h), fun h => by simpa [sput] using h2 (by simpa [did] using h), fun h => by simpa [sput] using h3 (by simpa [did] using h), fun h => by simpa [sput] using h4 (by simpa [did] using h), fun h => by simpa [sput] using h5 (by simpa [did] using h), fun h => by simpa [sput] using h6 (by simpa [did] using h), fun h => by simpa [sput] using h7 (by simpa [did] using h), fun _ => by simp [sput], fun h => by simpa [sput] using h9 (by simpa [did] using h), fun h => by have := x0 (by simpa [did] using h); simp [did, this], fun h => by simpa [sput] using x1 (by simpa [did] using h), hT⟩
        · have fz8 := h8 (by simp [hdep])
          unfold OpSteps
          simp [go_sem, evS, fz8]
          exact ⟨fun h => by simpa [sput] using h0 (by simpa [did] using h), fun h => by simpa [sput] using h1 (by simpa [did] using h), fun h => by simpa [sput] using h2 (by simpa [did] using h), fun h => by simpa [sput] using h3 (by simpa [did] using h), fun h => by simpa [sput] using h4 (by simpa [did] using h), fun h => by simpa [sput] using h5 (by simpa [did] using h), fun h => by simpa [sput] using h6 (by simpa [did] using h), fun h => by simpa [sput] using h7 (by simpa [did] using h), fun h => by simpa [sput] using h8 (by simpa [did] using h), fun _ => by simp [sput], fun _ => by first | simp [did, hdep] | (have := x0 (by simp [hdep]); simp [did, this]), fun h => by simp [did] at h, hT⟩
      intro d s W hJ hd
      obtain ⟨h0, h1, h2, h3, h4, h5, h6, h7, h8, h9, x0, x1, hT⟩ := hJ
      have hs8 := h9 (hd 9 (by decide))
      have hb : Below wr.heap.size wr W := hT
      clear h0 h1 h2 h3 h4 h5 h6 h7 h8 h9 x0 x1 hT hd
      simp [setAll, hs8]
      clear hs8
      generalize s 48 = s48
      generalize s 49 = s49
      generalize s 50 = s50
      generalize s 51 = s51
      generalize s 52 = s52
      generalize s 53 = s53
      generalize s 54 = s54
      generalize s 55 = s55
      generalize s 56 = s56
      have HX2 := Lib.hid (HXr.out.next hb)
      have HY2 := Lib.hid (HYr.out.next hb)
      have HR2 := Lib.hid (HRr.out.next hb)
      have HB2 := Lib.hid (below_nx HBr.out hb)
      have HZ2 := Lib.hid (Nat.le_trans HZr.out hb.size)
      have HO2 := Lib.hid (ownsRow_below HOr.out hb)
      clear hb a0 a1 a2 b0 b1 b2
      generalize W = w2 at *
      clear hU hV wU wV hlt2
      have HOaa := Lib.hid (HO2.out.alloc (.cells #[.int .i64 (V1 : Int)] 3))
      go_wp2_with (at_builtin; refine wpList_append_own _ rfl _ _ 32 rfl (w.heap.size + 1 + 1 + 1) 3 i0 (.int .i64 0) 1 8 Try.underlying32 hi hz0 hz1 hz2 rfl (by decide) _ q (ints Ls) rfl HOaa.out ⟨w2.heap.size, 0, none⟩ 1 1 [.int .i64 (V1 : Int)] rfl rfl ?c1a (by intro u hu; simp at hu; subst hu; rfl) ?c3a ?c4a ?c5a ?_)
      case c1a => exact cell_one_new _ _ _
      case c3a => unfold maxLen; have := HNb.out; omega
      case c4a => have := HNb.out; omega
      case c5a => (try simp); have := HZ2.out; omega
      intro v' w3 hown' hgrow _
      have hal := (Below.refl w2.heap.size w2).alloc (Nat.le_refl _) (.cells #[.int .i64 (V1 : Int)] 3)
      have hgx : ∀ k, k < w.heap.size + 1 + 1 + 1 → w3.heap[k]? = w2.heap[k]? := fun k hk => (hgrow.block k (by simp; have := HZ2.out; omega) (fun e => by have := (HOaa.out.lt k e.symm).1; omega)).trans (hal.block k (by have := HZ2.out; omega))
      have HX3 := Lib.hid (show Blk w3 w.heap.size 34 _ from (hgx _ (by omega)).trans HX2.out)
      have HY3 := Lib.hid (show Blk w3 (w.heap.size + 1) 34 _ from (hgx _ (by omega)).trans HY2.out)
      have HR3 := Lib.hid (show Blk w3 (w.heap.size + 1 + 1) 34 _ from (hgx _ (by omega)).trans HR2.out)
      have HB3 := Lib.hid ((below_nx HB2.out hal).grown hgrow (by simp; have := HZ2.out; omega) (fun k hk => by have := (HOaa.out.lt k hk).1; omega))
      have HZ3 := Lib.hid (show w.heap.size + 1 + 1 + 1 ≤ w3.heap.size by have := hgrow.size; have := HZ2.out; simp at *; omega)
      have HO3 := Lib.hid (show w3.ownsRow (w.heap.size + 1 + 1 + 1) 3 1 v' (q + 1) (ints (Ls ++ [V1])) by rw [ints_snoc]; exact hown')
      clear hown' hgrow hal hgx
      go_wp2_with fail
      go_roundw
      case rel => exact ⟨q + 1, V2, Ls ++ [V1], by have := HLT.out.1; omega, HV21.out, by rw [m5], congrArg (Value.int .i64) (by have := HPP.out; rw [hp1]; omega), HStep, HO3.out, HB3.out, HX3.out, HY3.out, HR3.out, HZ3.out⟩
      case measure => have := HPP.out; have := HLT.out.1; have := HNn.out; simp [intOf]; omega
    · obtain rfl : q = N := by omega
      have hlt2 : decide (fr + (q : Int) < tz) = false := by simp; have := HNn.out; omega
      have HX2 := HXr
      have HY2 := HYr
      have HR2 := HRr
      have HB2 := HBr
      have HZ2 := HZr
      have HO2 := HOr
      generalize wr = w2 at *
      have HOab := Lib.hid (HO2.out.alloc (.cells #[.int .i64 (cr : Int)] 3))
      go_wp2_with (at_builtin; refine wpList_append_own _ rfl _ _ 32 rfl (w.heap.size + 1 + 1 + 1) 3 i0 (.int .i64 0) 1 8 Try.underlying32 hi hz0 hz1 hz2 rfl (by decide) _ q (ints Ls) rfl HOab.out ⟨w2.heap.size, 0, none⟩ 1 1 [.int .i64 (cr : Int)] rfl rfl ?c1b (by intro u hu; simp at hu; subst hu; rfl) ?c3b ?c4b ?c5b ?_)
      case c1b => exact cell_one_new _ _ _
      case c3b => unfold maxLen; have := HNb.out; omega
      case c4b => have := HNb.out; omega
      case c5b => (try simp); have := HZ2.out; omega
      intro v' w3 hown' hgrow _
      have hal := (Below.refl w2.heap.size w2).alloc (Nat.le_refl _) (.cells #[.int .i64 (cr : Int)] 3)
      have hgx : ∀ k, k < w.heap.size + 1 + 1 + 1 → w3.heap[k]? = w2.heap[k]? := fun k hk => (hgrow.block k (by simp; have := HZ2.out; omega) (fun e => by have := (HOab.out.lt k e.symm).1; omega)).trans (hal.block k (by have := HZ2.out; omega))
      have HX3 := Lib.hid (show Blk w3 w.heap.size 34 _ from (hgx _ (by omega)).trans HX2.out)
      have HY3 := Lib.hid (show Blk w3 (w.heap.size + 1) 34 _ from (hgx _ (by omega)).trans HY2.out)
      have HR3 := Lib.hid (show Blk w3 (w.heap.size + 1 + 1) 34 _ from (hgx _ (by omega)).trans HR2.out)
      have HB3 := Lib.hid ((below_nx HB2.out hal).grown hgrow (by simp; have := HZ2.out; omega) (fun k hk => by have := (HOab.out.lt k hk).1; omega))
      have HZ3 := Lib.hid (show w.heap.size + 1 + 1 + 1 ≤ w3.heap.size by have := hgrow.size; have := HZ2.out; simp at *; omega)
      have HO3 := Lib.hid (show w3.ownsRow (w.heap.size + 1 + 1 + 1) 3 1 v' (q + 1) (ints (Ls ++ [cr])) by rw [ints_snoc]; exact hown')
      clear hown' hgrow hal hgx

      have hrd := own_rd (n := q + 1) HO3.out (Digs.append HL.out.2.1 (Digs.cons (show cr < 65536 by omega) (Digs.nil _)))
      obtain ⟨Am, cm, rfl, hRm, hcm⟩ := hrd
      have HRm := Lib.hid hRm
      have Hcm := Lib.hid hcm
      clear hRm hcm
      go_wp2_with fail
      refine (made_any true Am (q + 1) cm _ fr _ HRm.out (by have := HNb.out; omega) (by have := HFb.out; omega) Hcm.out).mono ?_
      rintro e w4 ⟨ng4, A4, n4, c4, E4, L4, rfl, hR4, hN4, hd4, hb⟩
      have HR4 := Lib.hid (HR3.out.next hb)
      have f0 := HR4.out.frozen 0
      have f1 := HR4.out.frozen 1
      have f2 := HR4.out.frozen 2
      obtain ⟨r0, r1, r2⟩ := cells3 HR4.out
      have HB4 := Lib.hid (below_nx HB3.out hb)
      have HRd4 := Lib.hid hR4
      have HN4 := Lib.hid hN4
      have HD4 := Lib.hid (show rdy ng4 L4 E4 = rdy true l E + rdy false l' E' from hd4.trans (by rw [HV1.out, HV2.out, dy_add, HL0.out, sgd_zero, Int.add_zero]; have := add_val true (fr := fr) HL.out.1 HL.out.2.2; rw [HL0.out, Nat.add_zero] at this; exact this))
      clear hb hR4 hN4 hd4
      go_wp2_with fail
      obtain ⟨q0, q1, q2⟩ := cells3 (Blk.store3 HR4.out (.bool ng4) (.slice A4 n4 c4) (.int .i64 E4))
      exact bodyPost_ret (v := .agg #[.bool ng4, .slice A4 n4 c4, .int .i64 E4]) (by simp [results, Try.results17, go_sem, q0, q1, q2]) rfl (retR_done HR4.out HRd4.out HN4.out HD4.out HB4.out (by omega))

end Go.Proofs.Ytjjneiidggcfdaa
