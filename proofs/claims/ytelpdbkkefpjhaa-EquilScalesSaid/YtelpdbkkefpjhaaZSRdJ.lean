/-
The document's ends, size. Conditions: the numbers lie within 2^40 places.
-/
import Derived.Test.YtelpdbkkefpjhaaWSu
import Derived.Test.YtelpdbkkefpjhaaWSo
set_option linter.unusedVariables false
set_option linter.unusedSimpArgs false
set_option linter.unnecessarySimpa false
namespace Go.Proofs.Ytelpdbkkefpjhaa
open Go.RowKit
attribute [local go_sem ↓] Go.wp_at_zero Go.wp_at_succ

set_option maxRecDepth 100000 in
set_option maxHeartbeats 4000000 in
theorem rends_any (neg : Bool) (A : Option Addr) (n c : Nat) (E : Int) (neg' : Bool) (A' : Option Addr) (n' c' : Nat) (E' : Int) (w : World) (hn : n ≤ 1099511627776) (hn' : n' ≤ 1099511627776) (hE : E.natAbs ≤ 1099511627776) (hE' : E'.natAbs ≤ 1099511627776) (fr tz : Int) (hf : endsF n E n' E' = (fr, tz)) :
    Calls Try.prog 76 #[.agg #[.bool neg, .slice A n c, .int .i64 E], .agg #[.bool neg', .slice A' n' c', .int .i64 E']] w fun e w' => e = .returned (.tuple #[.int .i64 fr, .int .i64 tz]) ∧ Below w.heap.size w w' := by
  have HX := Lib.hid ((Blk.new w 69 #[.bool neg, .slice A n c, .int .i64 E]).alloc (.cells #[.bool neg', .slice A' n' c', .int .i64 E'] 69))
  have HY := Lib.hid (Blk.new_ (w.alloc (.cells #[.bool neg, .slice A n c, .int .i64 E] 69)) 69 #[.bool neg', .slice A' n' c', .int .i64 E'] (w.heap.size + 1) (by simp))
  have HBl := Lib.hid (((Below.refl w.heap.size w).alloc (Nat.le_refl _) (.cells #[.bool neg, .slice A n c, .int .i64 E] 69)).alloc (by simp) (.cells #[.bool neg', .slice A' n' c', .int .i64 E'] 69))
  have hw1 : IntKind.i64.wrap (E + (n : Int)) = E + (n : Int) := iwrap_in (by omega)
  have hw2 : IntKind.i64.wrap (E' + (n' : Int)) = E' + (n' : Int) := iwrap_in (by omega)
  unfold endsF at hf
  by_cases h0 : n = 0
  · rw [if_pos h0] at hf
    injection hf with e1 e2
    subst e1 e2
    have ht : ((n : Int) == 0) = true := by simp [h0]
    clear h0 hn hn' hE hE'
    go_enter Try.func76, Try.ntmps76
    obtain ⟨a0, a1, a2⟩ := cells3 HX.out
    obtain ⟨b0, b1, b2⟩ := cells3 HY.out
    go_wp2_with fail
    generalize hW0 : ((w.alloc (.cells #[.bool neg, .slice A n c, .int .i64 E] 69)).alloc (.cells #[.bool neg', .slice A' n' c', .int .i64 E'] 69)) = W0 at *
    clear a0 a1 a2 b0 b1 b2 hW0
    refine wp_region_inv [10, 11, 12, 13, 14, 15, 16, 17, 4, 5] (fun d s W => (d 0 = true → s 10 = .pointer (some ⟨w.heap.size + 1, 2, none⟩)) ∧ (d 1 = true → s 11 = .int .i64 E') ∧ (d 2 = true → s 12 = .pointer (some ⟨w.heap.size + 1, 2, none⟩)) ∧ (d 3 = true → s 13 = .int .i64 E') ∧ (d 4 = true → s 14 = .pointer (some ⟨w.heap.size + 1, 1, none⟩)) ∧ (d 5 = true → s 15 = .slice A' n' c') ∧ (d 6 = true → s 16 = .int .i64 (n' : Int)) ∧ (d 7 = true → s 17 = .int .i64 (E' + (n' : Int))) ∧ (d 8 = true → s 4 = .int .i64 E') ∧ (d 9 = true → s 5 = .int .i64 (E' + (n' : Int))) ∧ Below W0.heap.size W0 W)
      rfl (by kernel_rfl) ?_ ?_ ?_
    · exact ⟨by simp, by simp, by simp, by simp, by simp, by simp, by simp, by simp, by simp, by simp, (Below.refl _ _).drew⟩
    · refine ⟨?_, ?_, ?_, ?_, ?_, ?_, ?_, ?_, ?_, ?_, trivial⟩
      all_goals
        intro d s W hJ hfr hd hdep
        simp only [List.mem_cons, forall_eq_or_imp, List.not_mem_nil, false_implies, implies_true, and_true, Region.binds] at hdep
        have f3 := hfr 3 (by decide)
        simp at f3 hdep
        obtain ⟨h0, h1, h2, h3, h4, h5, h6, h7, h8, h9, hT⟩ := hJ
      · unfold OpSteps
        simp [go_sem, evS, f3]
        exact ⟨fun _ => by simp [sput], fun h => by simpa [sput] using h1 (by simpa [did] using h), fun h => by simpa [sput] using h2 (by simpa [did] using h), fun h => by simpa [sput] using h3 (by simpa [did] using h), fun h => by simpa [sput] using h4 (by simpa [did] using h), fun h => by simpa [sput] using h5 (by simpa [did] using h), fun h => by simpa [sput] using h6 (by simpa [did] using h), fun h => by simpa [sput] using h7 (by simpa [did] using h), fun h => by simpa [sput] using h8 (by simpa [did] using h), fun h => by simpa [sput] using h9 (by simpa [did] using h), hT⟩
      · have fz0 := h0 (by simp [hdep])
        unfold OpSteps
        obtain ⟨p0, p1, p2⟩ := cells3 (HY.out.below hT HY.out.lt)
        simp [go_sem, evS, fz0, p0, p1, p2]
        exact ⟨fun h => by simpa [sput] using h0 (by simpa [did] using h), fun _ => by simp [sput], fun h => by simpa [sput] using h2 (by simpa [did] using h), fun h => by simpa [sput] using h3 (by simpa [did] using h), fun h => by simpa [sput] using h4 (by simpa [did] using h), fun h => by simpa [sput] using h5 (by simpa [did] using h), fun h => by simpa [sput] using h6 (by simpa [did] using h), fun h => by simpa [sput] using h7 (by simpa [did] using h), fun h => by simpa [sput] using h8 (by simpa [did] using h), fun h => by simpa [sput] using h9 (by simpa [did] using h), hT⟩
      · unfold OpSteps
        simp [go_sem, evS, f3]
        exact ⟨fun h => by simpa [sput] using h0 (by simpa [did] using h), fun h => by simpa [sput] using h1 (by simpa [did] using h), fun _ => by simp [sput], fun h => by simpa [sput] using h3 (by simpa [did] using h), fun h => by simpa [sput] using h4 (by simpa [did] using h), fun h => by simpa [sput] using h5 (by simpa [did] using h), fun h => by simpa [sput] using h6 (by simpa [did] using h), fun h => by simpa [sput] using h7 (by simpa [did] using h), fun h => by simpa [sput] using h8 (by simpa [did] using h), fun h => by simpa [sput] using h9 (by simpa [did] using h), hT⟩
      · have fz2 := h2 (by simp [hdep])
        unfold OpSteps
        obtain ⟨p0, p1, p2⟩ := cells3 (HY.out.below hT HY.out.lt)
        simp [go_sem, evS, fz2, p0, p1, p2]
        exact ⟨fun h => by simpa [sput] using h0 (by simpa [did] using h), fun h => by simpa [sput] using h1 (by simpa [did] using h), fun h => by simpa [sput] using h2 (by simpa [did] using h), fun _ => by simp [sput], fun h => by simpa [sput] using h4 (by simpa [did] using h), fun h => by simpa [sput] using h5 (by simpa [did] using h), fun h => by simpa [sput] using h6 (by simpa [did] using h), fun h => by simpa [sput] using h7 (by simpa [did] using h), fun h => by simpa [sput] using h8 (by simpa [did] using h), fun h => by simpa [sput] using h9 (by simpa [did] using h), hT⟩
      · unfold OpSteps
        simp [go_sem, evS, f3]
        exact ⟨fun h => by simpa [sput] using h0 (by simpa [did] using h), fun h => by simpa [sput] using h1 (by simpa [did] using h), fun h => by simpa [sput] using h2 (by simpa [did] using h), fun h => by simpa [sput] using h3 (by simpa [did] using h), fun _ => by simp [sput], fun h => by simpa [sput] using h5 (by simpa [did] using h), fun h => by simpa [sput] using h6 (by simpa [did] using h), fun h => by simpa [sput] using h7 (by simpa [did] using h), fun h => by simpa [sput] using h8 (by simpa [did] using h), fun h => by simpa [sput] using h9 (by simpa [did] using h), hT⟩
      · have fz4 := h4 (by simp [hdep])
        unfold OpSteps
        obtain ⟨p0, p1, p2⟩ := cells3 (HY.out.below hT HY.out.lt)
        simp [go_sem, evS, fz4, p0, p1, p2]
        exact ⟨fun h => by simpa [sput] using h0 (by simpa [did] using h), fun h => by simpa [sput] using h1 (by simpa [did] using h), fun h => by simpa [sput] using h2 (by simpa [did] using h), fun h => by simpa [sput] using h3 (by simpa [did] using h), fun h => by simpa [sput] using h4 (by simpa [did] using h), fun _ => by simp [sput], fun h => by simpa [sput] using h6 (by simpa [did] using h), fun h => by simpa [sput] using h7 (by simpa [did] using h), fun h => by simpa [sput] using h8 (by simpa [did] using h), fun h => by simpa [sput] using h9 (by simpa [did] using h), hT⟩
      · have fz5 := h5 (by simp [hdep])
        unfold OpSteps
        simp [go_sem, evS, fz5]
        exact ⟨fun h => by simpa [sput] using h0 (by simpa [did] using h), fun h => by simpa [sput] using h1 (by simpa [did] using h), fun h => by simpa [sput] using h2 (by simpa [did] using h), fun h => by simpa [sput] using h3 (by simpa [did] using h), fun h => by simpa [sput] using h4 (by simpa [did] using h), fun h => by simpa [sput] using h5 (by simpa [did] using h), fun _ => by simp [sput], fun h => by simpa [sput] using h7 (by simpa [did] using h), fun h => by simpa [sput] using h8 (by simpa [did] using h), fun h => by simpa [sput] using h9 (by simpa [did] using h), hT⟩
      · have fz3 := h3 (by simp [hdep])
        have fz6 := h6 (by simp [hdep])
        unfold OpSteps
        simp [go_sem, evS, fz3, fz6, hw2]
        exact ⟨fun h => by simpa [sput] using h0 (by simpa [did] using h), fun h => by simpa [sput] using h1 (by simpa [did] using h), fun h => by simpa [sput] using h2 (by simpa [did] using h), fun h => by simpa [sput] using h3 (by simpa [did] using h), fun h => by simpa [sput] using h4 (by simpa [did] using h), fun h => by simpa [sput] using h5 (by simpa [did] using h), fun h => by simpa [sput] using h6 (by simpa [did] using h), fun _ => by simp [sput], fun h => by simpa [sput] using h8 (by simpa [did] using h), fun h => by simpa [sput] using h9 (by simpa [did] using h), hT⟩
      · have fz1 := h1 (by simp [hdep])
        unfold OpSteps
        simp [go_sem, evS, fz1]
        exact ⟨fun h => by simpa [sput] using h0 (by simpa [did] using h), fun h => by simpa [sput] using h1 (by simpa [did] using h), fun h => by simpa [sput] using h2 (by simpa [did] using h), fun h => by simpa [sput] using h3 (by simpa [did] using h), fun h => by simpa [sput] using h4 (by simpa [did] using h), fun h => by simpa [sput] using h5 (by simpa [did] using h), fun h => by simpa [sput] using h6 (by simpa [did] using h), fun h => by simpa [sput] using h7 (by simpa [did] using h), fun _ => by simp [sput], fun h => by simpa [sput] using h9 (by simpa [did] using h), hT⟩
      · have fz7 := h7 (by simp [hdep])
        unfold OpSteps
        simp [go_sem, evS, fz7]
        exact ⟨fun h => by simpa [sput] using h0 (by simpa [did] using h), fun h => by simpa [sput] using h1 (by simpa [did] using h), fun h => by simpa [sput] using h2 (by simpa [did] using h), fun h => by simpa [sput] using h3 (by simpa [did] using h), fun h => by simpa [sput] using h4 (by simpa [did] using h), fun h => by simpa [sput] using h5 (by simpa [did] using h), fun h => by simpa [sput] using h6 (by simpa [did] using h), fun h => by simpa [sput] using h7 (by simpa [did] using h), fun h => by simpa [sput] using h8 (by simpa [did] using h), fun _ => by simp [sput], hT⟩
    intro d s W hJ hd
    obtain ⟨h0, h1, h2, h3, h4, h5, h6, h7, h8, h9, hT⟩ := hJ
    have hs4 := h8 (hd 8 (by decide))
    have hs5 := h9 (hd 9 (by decide))
    have HBe := Lib.hid (below_nx HBl.out hT)
    clear h0 h1 h2 h3 h4 h5 h6 h7 h8 h9 hT hd
    simp [setAll, hs4, hs5]
    clear hs4 hs5
    go_wp2_with fail
    go_ret2
    exact ⟨rfl, HBe.out⟩
  · rw [if_neg h0] at hf
    have ht : ((n : Int) == 0) = false := by simp; omega
    by_cases h1 : n' = 0
    · rw [if_pos h1] at hf
      injection hf with e1 e2
      subst e1 e2
      have ht2 : ((n' : Int) == 0) = true := by simp [h1]
      clear h0 h1 hn hn' hE hE'
      go_enter Try.func76, Try.ntmps76
      obtain ⟨a0, a1, a2⟩ := cells3 HX.out
      obtain ⟨b0, b1, b2⟩ := cells3 HY.out
      go_wp2_with fail
      generalize hW0 : ((w.alloc (.cells #[.bool neg, .slice A n c, .int .i64 E] 69)).alloc (.cells #[.bool neg', .slice A' n' c', .int .i64 E'] 69)) = W0 at *
      clear a0 a1 a2 b0 b1 b2 hW0
      refine wp_region_inv [22, 23, 24, 25, 26, 27, 28, 29, 4, 5] (fun d s W => (d 0 = true → s 22 = .pointer (some ⟨w.heap.size, 2, none⟩)) ∧ (d 1 = true → s 23 = .int .i64 E) ∧ (d 2 = true → s 24 = .pointer (some ⟨w.heap.size, 2, none⟩)) ∧ (d 3 = true → s 25 = .int .i64 E) ∧ (d 4 = true → s 26 = .pointer (some ⟨w.heap.size, 1, none⟩)) ∧ (d 5 = true → s 27 = .slice A n c) ∧ (d 6 = true → s 28 = .int .i64 (n : Int)) ∧ (d 7 = true → s 29 = .int .i64 (E + (n : Int))) ∧ (d 8 = true → s 4 = .int .i64 E) ∧ (d 9 = true → s 5 = .int .i64 (E + (n : Int))) ∧ Below W0.heap.size W0 W)
        rfl (by kernel_rfl) ?_ ?_ ?_
      · exact ⟨by simp, by simp, by simp, by simp, by simp, by simp, by simp, by simp, by simp, by simp, (Below.refl _ _).drew⟩
      · refine ⟨?_, ?_, ?_, ?_, ?_, ?_, ?_, ?_, ?_, ?_, trivial⟩
        all_goals
          intro d s W hJ hfr hd hdep
          simp only [List.mem_cons, forall_eq_or_imp, List.not_mem_nil, false_implies, implies_true, and_true, Region.binds] at hdep
          have f2 := hfr 2 (by decide)
          simp at f2 hdep
          obtain ⟨h0, h1, h2, h3, h4, h5, h6, h7, h8, h9, hT⟩ := hJ
        · unfold OpSteps
          simp [go_sem, evS, f2]
          exact ⟨fun _ => by simp [sput], fun h => by simpa [sput] using h1 (by simpa [did] using h), fun h => by simpa [sput] using h2 (by simpa [did] using h), fun h => by simpa [sput] using h3 (by simpa [did] using h), fun h => by simpa [sput] using h4 (by simpa [did] using h), fun h => by simpa [sput] using h5 (by simpa [did] using h), fun h => by simpa [sput] using h6 (by simpa [did] using h), fun h => by simpa [sput] using h7 (by simpa [did] using h), fun h => by simpa [sput] using h8 (by simpa [did] using h), fun h => by simpa [sput] using h9 (by simpa [did] using h), hT⟩
        · have fz0 := h0 (by simp [hdep])
          unfold OpSteps
          obtain ⟨p0, p1, p2⟩ := cells3 (HX.out.below hT HX.out.lt)
          simp [go_sem, evS, fz0, p0, p1, p2]
          exact ⟨fun h => by simpa [sput] using h0 (by simpa [did] using h), fun _ => by simp [sput], fun h => by simpa [sput] using h2 (by simpa [did] using h), fun h => by simpa [sput] using h3 (by simpa [did] using h), fun h => by simpa [sput] using h4 (by simpa [did] using h), fun h => by simpa [sput] using h5 (by simpa [did] using h), fun h => by simpa [sput] using h6 (by simpa [did] using h), fun h => by simpa [sput] using h7 (by simpa [did] using h), fun h => by simpa [sput] using h8 (by simpa [did] using h), fun h => by simpa [sput] using h9 (by simpa [did] using h), hT⟩
        · unfold OpSteps
          simp [go_sem, evS, f2]
          exact ⟨fun h => by simpa [sput] using h0 (by simpa [did] using h), fun h => by simpa [sput] using h1 (by simpa [did] using h), fun _ => by simp [sput], fun h => by simpa [sput] using h3 (by simpa [did] using h), fun h => by simpa [sput] using h4 (by simpa [did] using h), fun h => by simpa [sput] using h5 (by simpa [did] using h), fun h => by simpa [sput] using h6 (by simpa [did] using h), fun h => by simpa [sput] using h7 (by simpa [did] using h), fun h => by simpa [sput] using h8 (by simpa [did] using h), fun h => by simpa [sput] using h9 (by simpa [did] using h), hT⟩
        · have fz2 := h2 (by simp [hdep])
          unfold OpSteps
          obtain ⟨p0, p1, p2⟩ := cells3 (HX.out.below hT HX.out.lt)
          simp [go_sem, evS, fz2, p0, p1, p2]
          exact ⟨fun h => by simpa [sput] using h0 (by simpa [did] using h), fun h => by simpa [sput] using h1 (by simpa [did] using h), fun h => by simpa [sput] using h2 (by simpa [did] using h), fun _ => by simp [sput], fun h => by simpa [sput] using h4 (by simpa [did] using h), fun h => by simpa [sput] using h5 (by simpa [did] using h), fun h => by simpa [sput] using h6 (by simpa [did] using h), fun h => by simpa [sput] using h7 (by simpa [did] using h), fun h => by simpa [sput] using h8 (by simpa [did] using h), fun h => by simpa [sput] using h9 (by simpa [did] using h), hT⟩
        · unfold OpSteps
          simp [go_sem, evS, f2]
          exact ⟨fun h => by simpa [sput] using h0 (by simpa [did] using h), fun h => by simpa [sput] using h1 (by simpa [did] using h), fun h => by simpa [sput] using h2 (by simpa [did] using h), fun h => by simpa [sput] using h3 (by simpa [did] using h), fun _ => by simp [sput], fun h => by simpa [sput] using h5 (by simpa [did] using h), fun h => by simpa [sput] using h6 (by simpa [did] using h), fun h => by simpa [sput] using h7 (by simpa [did] using h), fun h => by simpa [sput] using h8 (by simpa [did] using h), fun h => by simpa [sput] using h9 (by simpa [did] using h), hT⟩
        · have fz4 := h4 (by simp [hdep])
          unfold OpSteps
          obtain ⟨p0, p1, p2⟩ := cells3 (HX.out.below hT HX.out.lt)
          simp [go_sem, evS, fz4, p0, p1, p2]
          exact ⟨fun h => by simpa [sput] using h0 (by simpa [did] using h), fun h => by simpa [sput] using h1 (by simpa [did] using h), fun h => by simpa [sput] using h2 (by simpa [did] using h), fun h => by simpa [sput] using h3 (by simpa [did] using h), fun h => by simpa [sput] using h4 (by simpa [did] using h), fun _ => by simp [sput], fun h => by simpa [sput] using h6 (by simpa [did] using h), fun h => by simpa [sput] using h7 (by simpa [did] using h), fun h => by simpa [sput] using h8 (by simpa [did] using h), fun h => by simpa [sput] using h9 (by simpa [did] using h), hT⟩
        · have fz5 := h5 (by simp [hdep])
          unfold OpSteps
          simp [go_sem, evS, fz5]
          exact ⟨fun h => by simpa [sput] using h0 (by simpa [did] using h), fun h => by simpa [sput] using h1 (by simpa [did] using h), fun h => by simpa [sput] using h2 (by simpa [did] using h), fun h => by simpa [sput] using h3 (by simpa [did] using h), fun h => by simpa [sput] using h4 (by simpa [did] using h), fun h => by simpa [sput] using h5 (by simpa [did] using h), fun _ => by simp [sput], fun h => by simpa [sput] using h7 (by simpa [did] using h), fun h => by simpa [sput] using h8 (by simpa [did] using h), fun h => by simpa [sput] using h9 (by simpa [did] using h), hT⟩
        · have fz3 := h3 (by simp [hdep])
          have fz6 := h6 (by simp [hdep])
          unfold OpSteps
          simp [go_sem, evS, fz3, fz6, hw1]
          exact ⟨fun h => by simpa [sput] using h0 (by simpa [did] using h), fun h => by simpa [sput] using h1 (by simpa [did] using h), fun h => by simpa [sput] using h2 (by simpa [did] using h), fun h => by simpa [sput] using h3 (by simpa [did] using h), fun h => by simpa [sput] using h4 (by simpa [did] using h), fun h => by simpa [sput] using h5 (by simpa [did] using h), fun h => by simpa [sput] using h6 (by simpa [did] using h), fun _ => by simp [sput], fun h => by simpa [sput] using h8 (by simpa [did] using h), fun h => by simpa [sput] using h9 (by simpa [did] using h), hT⟩
        · have fz1 := h1 (by simp [hdep])
          unfold OpSteps
          simp [go_sem, evS, fz1]
          exact ⟨fun h => by simpa [sput] using h0 (by simpa [did] using h), fun h => by simpa [sput] using h1 (by simpa [did] using h), fun h => by simpa [sput] using h2 (by simpa [did] using h), fun h => by simpa [sput] using h3 (by simpa [did] using h), fun h => by simpa [sput] using h4 (by simpa [did] using h), fun h => by simpa [sput] using h5 (by simpa [did] using h), fun h => by simpa [sput] using h6 (by simpa [did] using h), fun h => by simpa [sput] using h7 (by simpa [did] using h), fun _ => by simp [sput], fun h => by simpa [sput] using h9 (by simpa [did] using h), hT⟩
        · have fz7 := h7 (by simp [hdep])
          unfold OpSteps
          simp [go_sem, evS, fz7]
          exact ⟨fun h => by simpa [sput] using h0 (by simpa [did] using h), fun h => by simpa [sput] using h1 (by simpa [did] using h), fun h => by simpa [sput] using h2 (by simpa [did] using h), fun h => by simpa [sput] using h3 (by simpa [did] using h), fun h => by simpa [sput] using h4 (by simpa [did] using h), fun h => by simpa [sput] using h5 (by simpa [did] using h), fun h => by simpa [sput] using h6 (by simpa [did] using h), fun h => by simpa [sput] using h7 (by simpa [did] using h), fun h => by simpa [sput] using h8 (by simpa [did] using h), fun _ => by simp [sput], hT⟩
      intro d s W hJ hd
      obtain ⟨h0, h1, h2, h3, h4, h5, h6, h7, h8, h9, hT⟩ := hJ
      have hs4 := h8 (hd 8 (by decide))
      have hs5 := h9 (hd 9 (by decide))
      have HBe := Lib.hid (below_nx HBl.out hT)
      clear h0 h1 h2 h3 h4 h5 h6 h7 h8 h9 hT hd
      simp [setAll, hs4, hs5]
      clear hs4 hs5
      go_wp2_with fail
      go_ret2
      exact ⟨rfl, HBe.out⟩
    · rw [if_neg h1] at hf
      injection hf with e1 e2
      subst e1 e2
      have ht2 : ((n' : Int) == 0) = false := by simp; omega
      obtain ⟨fr, hfr⟩ : ∃ fr, min E E' = fr := ⟨_, rfl⟩
      obtain ⟨tz, hto⟩ : ∃ tz, max (E + (n : Int)) (E' + (n' : Int)) = tz := ⟨_, rfl⟩
      have hrm : (if E' < E then E' else E) = fr := by rw [← hfr]; split <;> omega
      have hrx : (if E + (n : Int) < E' + (n' : Int) then E' + (n' : Int) else E + (n : Int)) = tz := by rw [← hto]; split <;> omega
      rw [hfr, hto]
      clear h0 h1 hn hn' hE hE' hfr hto
      go_enter Try.func76, Try.ntmps76
      obtain ⟨a0, a1, a2⟩ := cells3 HX.out
      obtain ⟨b0, b1, b2⟩ := cells3 HY.out
      go_wp2_with fail
      generalize hW0 : ((w.alloc (.cells #[.bool neg, .slice A n c, .int .i64 E] 69)).alloc (.cells #[.bool neg', .slice A' n' c', .int .i64 E'] 69)) = W0 at *
      clear a0 a1 a2 b0 b1 b2 hW0
      refine wp_region_inv [30, 31, 32, 33, 34, 35, 36, 37, 38, 39, 40, 41, 42, 43, 44, 45, 46, 47, 4, 5] (fun d s W => (d 0 = true → s 30 = .pointer (some ⟨w.heap.size, 2, none⟩)) ∧ (d 1 = true → s 31 = .int .i64 E) ∧ (d 2 = true → s 32 = .pointer (some ⟨w.heap.size + 1, 2, none⟩)) ∧ (d 3 = true → s 33 = .int .i64 E') ∧ (d 4 = true → s 34 = .int .i64 fr) ∧ (d 5 = true → s 35 = .pointer (some ⟨w.heap.size, 2, none⟩)) ∧ (d 6 = true → s 36 = .int .i64 E) ∧ (d 7 = true → s 37 = .pointer (some ⟨w.heap.size, 1, none⟩)) ∧ (d 8 = true → s 38 = .slice A n c) ∧ (d 9 = true → s 39 = .int .i64 (n : Int)) ∧ (d 10 = true → s 40 = .int .i64 (E + (n : Int))) ∧ (d 11 = true → s 41 = .pointer (some ⟨w.heap.size + 1, 2, none⟩)) ∧ (d 12 = true → s 42 = .int .i64 E') ∧ (d 13 = true → s 43 = .pointer (some ⟨w.heap.size + 1, 1, none⟩)) ∧ (d 14 = true → s 44 = .slice A' n' c') ∧ (d 15 = true → s 45 = .int .i64 (n' : Int)) ∧ (d 16 = true → s 46 = .int .i64 (E' + (n' : Int))) ∧ (d 17 = true → s 47 = .int .i64 tz) ∧ (d 18 = true → s 4 = .int .i64 fr) ∧ (d 19 = true → s 5 = .int .i64 tz) ∧ Below W0.heap.size W0 W)
        rfl (by kernel_rfl) ?_ ?_ ?_
      · exact ⟨by simp, by simp, by simp, by simp, by simp, by simp, by simp, by simp, by simp, by simp, by simp, by simp, by simp, by simp, by simp, by simp, by simp, by simp, by simp, by simp, (Below.refl _ _).drew⟩
      · refine ⟨?_, ?_, ?_, ?_, ?_, ?_, ?_, ?_, ?_, ?_, ?_, ?_, ?_, ?_, ?_, ?_, ?_, ?_, ?_, ?_, trivial⟩
        all_goals
          intro d s W hJ hfr hd hdep
          simp only [List.mem_cons, forall_eq_or_imp, List.not_mem_nil, false_implies, implies_true, and_true, Region.binds] at hdep
          have f2 := hfr 2 (by decide)
          have f3 := hfr 3 (by decide)
          simp at f2 f3 hdep
          obtain ⟨h0, h1, h2, h3, h4, h5, h6, h7, h8, h9, h10, h11, h12, h13, h14, h15, h16, h17, h18, h19, hT⟩ := hJ
        · unfold OpSteps
          simp [go_sem, evS, f2]
          exact ⟨fun _ => by simp [sput], fun h => by simpa [sput] using h1 (by simpa [did] using h), fun h => by simpa [sput] using h2 (by simpa [did] using h), fun h => by simpa [sput] using h3 (by simpa [did] using h), fun h => by simpa [sput] using h4 (by simpa [did] using h), fun h => by simpa [sput] using h5 (by simpa [did] using h), fun h => by simpa [sput] using h6 (by simpa [did] using h), fun h => by simpa [sput] using h7 (by simpa [did] using h), fun h => by simpa [sput] using h8 (by simpa [did] using h), fun h => by simpa [sput] using h9 (by simpa [did] using h), fun h => by simpa [sput] using h10 (by simpa [did] using h), fun h => by simpa [sput] using h11 (by simpa [did] using h), fun h => by simpa [sput] using h12 (by simpa [did] using h), fun h => by simpa [sput] using h13 (by simpa [did] using h), fun h => by simpa [sput] using h14 (by simpa [did] using h), fun h => by simpa [sput] using h15 (by simpa [did] using h), fun h => by simpa [sput] using h16 (by simpa [did] using h), fun h => by simpa [sput] using h17 (by simpa [did] using h), fun h => by simpa [sput] using h18 (by simpa [did] using h), fun h => by simpa [sput] using h19 (by simpa [did] using h), hT⟩
        · have fz0 := h0 (by simp [hdep])
          unfold OpSteps
          obtain ⟨p0, p1, p2⟩ := cells3 (HX.out.below hT HX.out.lt)
          simp [go_sem, evS, fz0, p0, p1, p2]
          exact ⟨fun h => by simpa [sput] using h0 (by simpa [did] using h), fun _ => by simp [sput], fun h => by simpa [sput] using h2 (by simpa [did] using h), fun h => by simpa [sput] using h3 (by simpa [did] using h), fun h => by simpa [sput] using h4 (by simpa [did] using h), fun h => by simpa [sput] using h5 (by simpa [did] using h), fun h => by simpa [sput] using h6 (by simpa [did] using h), fun h => by simpa [sput] using h7 (by simpa [did] using h), fun h => by simpa [sput] using h8 (by simpa [did] using h), fun h => by simpa [sput] using h9 (by simpa [did] using h), fun h => by simpa [sput] using h10 (by simpa [did] using h), fun h => by simpa [sput] using h11 (by simpa [did] using h), fun h => by simpa [sput] using h12 (by simpa [did] using h), fun h => by simpa [sput] using h13 (by simpa [did] using h), fun h => by simpa [sput] using h14 (by simpa [did] using h), fun h => by simpa [sput] using h15 (by simpa [did] using h), fun h => by simpa [sput] using h16 (by simpa [did] using h), fun h => by simpa [sput] using h17 (by simpa [did] using h), fun h => by simpa [sput] using h18 (by simpa [did] using h), fun h => by simpa [sput] using h19 (by simpa [did] using h), hT⟩
        · unfold OpSteps
          simp [go_sem, evS, f3]
          exact ⟨fun h => by simpa [sput] using h0 (by simpa [did] using h), fun h => by simpa [sput] using h1 (by simpa [did] using h), fun _ => by simp [sput], fun h => by simpa [sput] using h3 (by simpa [did] using h), fun h => by simpa [sput] using h4 (by simpa [did] using h), fun h => by simpa [sput] using h5 (by simpa [did] using h), fun h => by simpa [sput] using h6 (by simpa [did] using h), fun h => by simpa [sput] using h7 (by simpa [did] using h), fun h => by simpa [sput] using h8 (by simpa [did] using h), fun h => by simpa [sput] using h9 (by simpa [did] using h), fun h => by simpa [sput] using h10 (by simpa [did] using h), fun h => by simpa [sput] using h11 (by simpa [did] using h), fun h => by simpa [sput] using h12 (by simpa [did] using h), fun h => by simpa [sput] using h13 (by simpa [did] using h), fun h => by simpa [sput] using h14 (by simpa [did] using h), fun h => by simpa [sput] using h15 (by simpa [did] using h), fun h => by simpa [sput] using h16 (by simpa [did] using h), fun h => by simpa [sput] using h17 (by simpa [did] using h), fun h => by simpa [sput] using h18 (by simpa [did] using h), fun h => by simpa [sput] using h19 (by simpa [did] using h), hT⟩
        · have fz2 := h2 (by simp [hdep])
          unfold OpSteps
          obtain ⟨p0, p1, p2⟩ := cells3 (HY.out.below hT HY.out.lt)
          simp [go_sem, evS, fz2, p0, p1, p2]
          exact ⟨fun h => by simpa [sput] using h0 (by simpa [did] using h), fun h => by simpa [sput] using h1 (by simpa [did] using h), fun h => by simpa [sput] using h2 (by simpa [did] using h), fun _ => by simp [sput], fun h => by simpa [sput] using h4 (by simpa [did] using h), fun h => by simpa [sput] using h5 (by simpa [did] using h), fun h => by simpa [sput] using h6 (by simpa [did] using h), fun h => by simpa [sput] using h7 (by simpa [did] using h), fun h => by simpa [sput] using h8 (by simpa [did] using h), fun h => by simpa [sput] using h9 (by simpa [did] using h), fun h => by simpa [sput] using h10 (by simpa [did] using h), fun h => by simpa [sput] using h11 (by simpa [did] using h), fun h => by simpa [sput] using h12 (by simpa [did] using h), fun h => by simpa [sput] using h13 (by simpa [did] using h), fun h => by simpa [sput] using h14 (by simpa [did] using h), fun h => by simpa [sput] using h15 (by simpa [did] using h), fun h => by simpa [sput] using h16 (by simpa [did] using h), fun h => by simpa [sput] using h17 (by simpa [did] using h), fun h => by simpa [sput] using h18 (by simpa [did] using h), fun h => by simpa [sput] using h19 (by simpa [did] using h), hT⟩
        · have fz1 := h1 (by simp [hdep])
          have fz3 := h3 (by simp [hdep])
          unfold OpSteps
          simp [go_sem, evS, fz1, fz3, hrm]
          exact ⟨fun h => by simpa [sput] using h0 (by simpa [did] using h), fun h => by simpa [sput] using h1 (by simpa [did] using h), fun h => by simpa [sput] using h2 (by simpa [did] using h), fun h => by simpa [sput] using h3 (by simpa [did] using h), fun _ => by simp [sput], fun h => by simpa [sput] using h5 (by simpa [did] using h), fun h => by simpa [sput] using h6 (by simpa [did] using h), fun h => by simpa [sput] using h7 (by simpa [did] using h), fun h => by simpa [sput] using h8 (by simpa [did] using h), fun h => by simpa [sput] using h9 (by simpa [did] using h), fun h => by simpa [sput] using h10 (by simpa [did] using h), fun h => by simpa [sput] using h11 (by simpa [did] using h), fun h => by simpa [sput] using h12 (by simpa [did] using h), fun h => by simpa [sput] using h13 (by simpa [did] using h), fun h => by simpa [sput] using h14 (by simpa [did] using h), fun h => by simpa [sput] using h15 (by simpa [did] using h), fun h => by simpa [sput] using h16 (by simpa [did] using h), fun h => by simpa [sput] using h17 (by simpa [did] using h), fun h => by simpa [sput] using h18 (by simpa [did] using h), fun h => by simpa [sput] using h19 (by simpa [did] using h), hT⟩
        · unfold OpSteps
          simp [go_sem, evS, f2]
          exact ⟨fun h => by simpa [sput] using h0 (by simpa [did] using h), fun h => by simpa [sput] using h1 (by simpa [did] using h), fun h => by simpa [sput] using h2 (by simpa [did] using h), fun h => by simpa [sput] using h3 (by simpa [did] using h), fun h => by simpa [sput] using h4 (by simpa [did] using h), fun _ => by simp [sput], fun h => by simpa [sput] using h6 (by simpa [did] using h), fun h => by simpa [sput] using h7 (by simpa [did] using h), fun h => by simpa [sput] using h8 (by simpa [did] using h), fun h => by simpa [sput] using h9 (by simpa [did] using h), fun h => by simpa [sput] using h10 (by simpa [did] using h), fun h => by simpa [sput] using h11 (by simpa [did] using h), fun h => by simpa [sput] using h12 (by simpa [did] using h), fun h => by simpa [sput] using h13 (by simpa [did] using h), fun h => by simpa [sput] using h14 (by simpa [did] using h), fun h => by simpa [sput] using h15 (by simpa [did] using h), fun h => by simpa [sput] using h16 (by simpa [did] using h), fun h => by simpa [sput] using h17 (by simpa [did] using h), fun h => by simpa [sput] using h18 (by simpa [did] using h), fun h => by simpa [sput] using h19 (by simpa [did] using h), hT⟩
        · have fz5 := h5 (by simp [hdep])
          unfold OpSteps
          obtain ⟨p0, p1, p2⟩ := cells3 (HX.out.below hT HX.out.lt)
          simp [go_sem, evS, fz5, p0, p1, p2]
          exact ⟨fun h => by simpa [sput] using h0 (by simpa [did] using h), fun h => by simpa [sput] using h1 (by simpa [did] using h), fun h => by simpa [sput] using h2 (by simpa [did] using h), fun h => by simpa [sput] using h3 (by simpa [did] using h), fun h => by simpa [sput] using h4 (by simpa [did] using h), fun h => by simpa [sput] using h5 (by simpa [did] using h), fun _ => by simp [sput], fun h => by simpa [sput] using h7 (by simpa [did] using h), fun h => by simpa [sput] using h8 (by simpa [did] using h), fun h => by simpa [sput] using h9 (by simpa [did] using h), fun h => by simpa [sput] using h10 (by simpa [did] using h), fun h => by simpa [sput] using h11 (by simpa [did] using h), fun h => by simpa [sput] using h12 (by simpa [did] using h), fun h => by simpa [sput] using h13 (by simpa [did] using h), fun h => by simpa [sput] using h14 (by simpa [did] using h), fun h => by simpa [sput] using h15 (by simpa [did] using h), fun h => by simpa [sput] using h16 (by simpa [did] using h), fun h => by simpa [sput] using h17 (by simpa [did] using h), fun h => by simpa [sput] using h18 (by simpa [did] using h), fun h => by simpa [sput] using h19 (by simpa [did] using h), hT⟩
        · unfold OpSteps
          simp [go_sem, evS, f2]
          exact ⟨fun h => by simpa [sput] using h0 (by simpa [did] using h), fun h => by simpa [sput] using h1 (by simpa [did] using h), fun h => by simpa [sput] using h2 (by simpa [did] using h), fun h => by simpa [sput] using h3 (by simpa [did] using h), fun h => by simpa [sput] using h4 (by simpa [did] using h), fun h => by simpa [sput] using h5 (by simpa [did] using h), fun h => by simpa [sput] using h6 (by simpa [did] using h), fun _ => by simp [sput], fun h => by simpa [sput] using h8 (by simpa [did] using h), fun h => by simpa [sput] using h9 (by simpa [did] using h), fun h => by simpa [sput] using h10 (by simpa [did] using h), fun h => by simpa [sput] using h11 (by simpa [did] using h), fun h => by simpa [sput] using h12 (by simpa [did] using h), fun h => by simpa [sput] using h13 (by simpa [did] using h), fun h => by simpa [sput] using h14 (by simpa [did] using h), fun h => by simpa [sput] using h15 (by simpa [did] using h), fun h => by simpa [sput] using h16 (by simpa [did] using h), fun h => by simpa [sput] using h17 (by simpa [did] using h), fun h => by simpa [sput] using h18 (by simpa [did] using h), fun h => by simpa [sput] using h19 (by simpa [did] using h), hT⟩
        · have fz7 := h7 (by simp [hdep])
          unfold OpSteps
          obtain ⟨p0, p1, p2⟩ := cells3 (HX.out.below hT HX.out.lt)
          simp [go_sem, evS, fz7, p0, p1, p2]
          exact ⟨fun h => by simpa [sput] using h0 (by simpa [did] using h), fun h => by simpa [sput] using h1 (by simpa [did] using h), fun h => by simpa [sput] using h2 (by simpa [did] using h), fun h => by simpa [sput] using h3 (by simpa [did] using h), fun h => by simpa [sput] using h4 (by simpa [did] using h), fun h => by simpa [sput] using h5 (by simpa [did] using h), fun h => by simpa [sput] using h6 (by simpa [did] using h), fun h => by simpa [sput] using h7 (by simpa [did] using h), fun _ => by simp [sput], fun h => by simpa [sput] using h9 (by simpa [did] using h), fun h => by simpa [sput] using h10 (by simpa [did] using h), fun h => by simpa [sput] using h11 (by simpa [did] using h), fun h => by simpa [sput] using h12 (by simpa [did] using h), fun h => by simpa [sput] using h13 (by simpa [did] using h), fun h => by simpa [sput] using h14 (by simpa [did] using h), fun h => by simpa [sput] using h15 (by simpa [did] using h), fun h => by simpa [sput] using h16 (by simpa [did] using h), fun h => by simpa [sput] using h17 (by simpa [did] using h), fun h => by simpa [sput] using h18 (by simpa [did] using h), fun h => by simpa [sput] using h19 (by simpa [did] using h), hT⟩
        · have fz8 := h8 (by simp [hdep])
          unfold OpSteps
          simp [go_sem, evS, fz8]
          exact ⟨fun h => by simpa [sput] using h0 (by simpa [did] using h), fun h => by simpa [sput] using h1 (by simpa [did] using h), fun h => by simpa [sput] using h2 (by simpa [did] using h), fun h => by simpa [sput] using h3 (by simpa [did] using h), fun h => by simpa [sput] using h4 (by simpa [did] using h), fun h => by simpa [sput] using h5 (by simpa [did] using h), fun h => by simpa [sput] using h6 (by simpa [did] using h), fun h => by simpa [sput] using h7 (by simpa [did] using h), fun h => by simpa [sput] using h8 (by simpa [did] using h), fun _ => by simp [sput], fun h => by simpa [sput] using h10 (by simpa [did] using h), fun h => by simpa [sput] using h11 (by simpa [did] using h), fun h => by simpa [sput] using h12 (by simpa [did] using h), fun h => by simpa [sput] using h13 (by simpa [did] using h), fun h => by simpa [sput] using h14 (by simpa [did] using h), fun h => by simpa [sput] using h15 (by simpa [did] using h), fun h => by simpa [sput] using h16 (by simpa [did] using h), fun h => by simpa [sput] using h17 (by simpa [did] using h), fun h => by simpa [sput] using h18 (by simpa [did] using h), fun h => by simpa [sput] using h19 (by simpa [did] using h), hT⟩
        · have fz6 := h6 (by simp [hdep])
          have fz9 := h9 (by simp [hdep])
          unfold OpSteps
          simp [go_sem, evS, fz6, fz9, hw1]
          exact ⟨fun h => by simpa [sput] using h0 (by simpa [did] using h), fun h => by simpa [sput] using h1 (by simpa [did] using h), fun h => by simpa [sput] using h2 (by simpa [did] using h), fun h => by simpa [sput] using h3 (by simpa [did] using h), fun h => by simpa [sput] using h4 (by simpa [did] using h), fun h => by simpa [sput] using h5 (by simpa [did] using h), fun h => by simpa [sput] using h6 (by simpa [did] using h), fun h => by simpa [sput] using h7 (by simpa [did] using h), fun h => by simpa [sput] using h8 (by simpa [did] using h), fun h => by simpa [sput] using h9 (by simpa [did] using h), fun _ => by simp [sput], fun h => by simpa [sput] using h11 (by simpa [did] using h), fun h => by simpa [sput] using h12 (by simpa [did] using h), fun h => by simpa [sput] using h13 (by simpa [did] using h), fun h => by simpa [sput] using h14 (by simpa [did] using h), fun h => by simpa [sput] using h15 (by simpa [did] using h), fun h => by simpa [sput] using h16 (by simpa [did] using h), fun h => by simpa [sput] using h17 (by simpa [did] using h), fun h => by simpa [sput] using h18 (by simpa [did] using h), fun h => by simpa [sput] using h19 (by simpa [did] using h), hT⟩
        · unfold OpSteps
          simp [go_sem, evS, f3]
          exact ⟨fun h => by simpa [sput] using h0 (by simpa [did] using h), fun h => by simpa [sput] using h1 (by simpa [did] using h), fun h => by simpa [sput] using h2 (by simpa [did] using h), fun h => by simpa [sput] using h3 (by simpa [did] using h), fun h => by simpa [sput] using h4 (by simpa [did] using h), fun h => by simpa [sput] using h5 (by simpa [did] using h), fun h => by simpa [sput] using h6 (by simpa [did] using h), fun h => by simpa [sput] using h7 (by simpa [did] using h), fun h => by simpa [sput] using h8 (by simpa [did] using h), fun h => by simpa [sput] using h9 (by simpa [did] using h), fun h => by simpa [sput] using h10 (by simpa [did] using h), fun _ => by simp [sput], fun h => by simpa [sput] using h12 (by simpa [did] using h), fun h => by simpa [sput] using h13 (by simpa [did] using h), fun h => by simpa [sput] using h14 (by simpa [did] using h), fun h => by simpa [sput] using h15 (by simpa [did] using h), fun h => by simpa [sput] using h16 (by simpa [did] using h), fun h => by simpa [sput] using h17 (by simpa [did] using h), fun h => by simpa [sput] using h18 (by simpa [did] using h), fun h => by simpa [sput] using h19 (by simpa [did] using h), hT⟩
        · have fz11 := h11 (by simp [hdep])
          unfold OpSteps
          obtain ⟨p0, p1, p2⟩ := cells3 (HY.out.below hT HY.out.lt)
          simp [go_sem, evS, fz11, p0, p1, p2]
          exact ⟨fun h => by simpa [sput] using h0 (by simpa [did] using h), fun h => by simpa [sput] using h1 (by simpa [did] using h), fun h => by simpa [sput] using h2 (by simpa [did] using h), fun h => by simpa [sput] using h3 (by simpa [did] using h), fun h => by simpa [sput] using h4 (by simpa [did] using h), fun h => by simpa [sput] using h5 (by simpa [did] using h), fun h => by simpa [sput] using h6 (by simpa [did] using h), fun h => by simpa [sput] using h7 (by simpa [did] using h), fun h => by simpa [sput] using h8 (by simpa [did] using h), fun h => by simpa [sput] using h9 (by simpa [did] using h), fun h => by simpa [sput] using h10 (by simpa [did] using h), fun h => by simpa [sput] using h11 (by simpa [did] using h), fun _ => by simp [sput], fun h => by simpa [sput] using h13 (by simpa [did] using h), fun h => by simpa [sput] using h14 (by simpa [did] using h), fun h => by simpa [sput] using h15 (by simpa [did] using h), fun h => by simpa [sput] using h16 (by simpa [did] using h), fun h => by simpa [sput] using h17 (by simpa [did] using h), fun h => by simpa [sput] using h18 (by simpa [did] using h), fun h => by simpa [sput] using h19 (by simpa [did] using h), hT⟩
        · unfold OpSteps
          simp [go_sem, evS, f3]
          exact ⟨fun h => by simpa [sput] using h0 (by simpa [did] using h), fun h => by simpa [sput] using h1 (by simpa [did] using h), fun h => by simpa [sput] using h2 (by simpa [did] using h), fun h => by simpa [sput] using h3 (by simpa [did] using h), fun h => by simpa [sput] using h4 (by simpa [did] using h), fun h => by simpa [sput] using h5 (by simpa [did] using h), fun h => by simpa [sput] using h6 (by simpa [did] using h), fun h => by simpa [sput] using h7 (by simpa [did] using h), fun h => by simpa [sput] using h8 (by simpa [did] using h), fun h => by simpa [sput] using h9 (by simpa [did] using h), fun h => by simpa [sput] using h10 (by simpa [did] using h), fun h => by simpa [sput] using h11 (by simpa [did] using h), fun h => by simpa [sput] using h12 (by simpa [did] using h), fun _ => by simp [sput], fun h => by simpa [sput] using h14 (by simpa [did] using h), fun h => by simpa [sput] using h15 (by simpa [did] using h), fun h => by simpa [sput] using h16 (by simpa [did] using h), fun h => by simpa [sput] using h17 (by simpa [did] using h), fun h => by simpa [sput] using h18 (by simpa [did] using h), fun h => by simpa [sput] using h19 (by simpa [did] using h), hT⟩
        · have fz13 := h13 (by simp [hdep])
          unfold OpSteps
          obtain ⟨p0, p1, p2⟩ := cells3 (HY.out.below hT HY.out.lt)
          simp [go_sem, evS, fz13, p0, p1, p2]
          exact ⟨fun h => by simpa [sput] using h0 (by simpa [did] using h), fun h => by simpa [sput] using h1 (by simpa [did] using h), fun h => by simpa [sput] using h2 (by simpa [did] using h), fun h => by simpa [sput] using h3 (by simpa [did] using h), fun h => by simpa [sput] using h4 (by simpa [did] using h), fun h => by simpa [sput] using h5 (by simpa [did] using h), fun h => by simpa [sput] using h6 (by simpa [did] using h), fun h => by simpa [sput] using h7 (by simpa [did] using h), fun h => by simpa [sput] using h8 (by simpa [did] using h), fun h => by simpa [sput] using h9 (by simpa [did] using h), fun h => by simpa [sput] using h10 (by simpa [did] using h), fun h => by simpa [sput] using h11 (by simpa [did] using h), fun h => by simpa [sput] using h12 (by simpa [did] using h), fun h => by simpa [sput] using h13 (by simpa [did] using h), fun _ => by simp [sput], fun h => by simpa [sput] using h15 (by simpa [did] using h), fun h => by simpa [sput] using h16 (by simpa [did] using h), fun h => by simpa [sput] using h17 (by simpa [did] using h), fun h => by simpa [sput] using h18 (by simpa [did] using h), fun h => by simpa [sput] using h19 (by simpa [did] using h), hT⟩
        · have fz14 := h14 (by simp [hdep])
          unfold OpSteps
          simp [go_sem, evS, fz14]
          exact ⟨fun h => by simpa [sput] using h0 (by simpa [did] using h), fun h => by simpa [sput] using h1 (by simpa [did] using h), fun h => by simpa [sput] using h2 (by simpa [did] using h), fun h => by simpa [sput] using h3 (by simpa [did] using h), fun h => by simpa [sput] using h4 (by simpa [did] using h), fun h => by simpa [sput] using h5 (by simpa [did] using h), fun h => by simpa [sput] using h6 (by simpa [did] using h), fun h => by simpa [sput] using h7 (by simpa [did] using h), fun h => by simpa [sput] using h8 (by simpa [did] using h), fun h => by simpa [sput] using h9 (by simpa [did] using h), fun h => by simpa [sput] using h10 (by simpa [did] using h), fun h => by simpa [sput] using h11 (by simpa [did] using h), fun h => by simpa [sput] using h12 (by simpa [did] using h), fun h => by simpa [sput] using h13 (by simpa [did] using h), fun h => by simpa [sput] using h14 (by simpa [did] using h), fun _ => by simp [sput], fun h => by simpa [sput] using h16 (by simpa [did] using h), fun h => by simpa [sput] using h17 (by simpa [did] using h), fun h => by simpa [sput] using h18 (by simpa [did] using h), fun h => by simpa [sput] using h19 (by simpa [did] using h), hT⟩
        · have fz12 := h12 (by simp [hdep])
          have fz15 := h15 (by simp [hdep])
          unfold OpSteps
          simp [go_sem, evS, fz12, fz15, hw2]
          exact ⟨fun h => by simpa [sput] using h0 (by simpa [did] using h), fun h => by simpa [sput] using h1 (by simpa [did] using h), fun h => by simpa [sput] using h2 (by simpa [did] using h), fun h => by simpa [sput] using h3 (by simpa [did] using h), fun h => by simpa [sput] using h4 (by simpa [did] using h), fun h => by simpa [sput] using h5 (by simpa [did] using h), fun h => by simpa [sput] using h6 (by simpa [did] using h), fun h => by simpa [sput] using h7 (by simpa [did] using h), fun h => by simpa [sput] using h8 (by simpa [did] using h), fun h => by simpa [sput] using h9 (by simpa [did] using h), fun h => by simpa [sput] using h10 (by simpa [did] using h), fun h => by simpa [sput] using h11 (by simpa [did] using h), fun h => by simpa [sput] using h12 (by simpa [did] using h), fun h => by simpa [sput] using h13 (by simpa [did] using h), fun h => by simpa [sput] using h14 (by simpa [did] using h), fun h => by simpa [sput] using h15 (by simpa [did] using h), fun _ => by simp [sput], fun h => by simpa [sput] using h17 (by simpa [did] using h), fun h => by simpa [sput] using h18 (by simpa [did] using h), fun h => by simpa [sput] using h19 (by simpa [did] using h), hT⟩
        · have fz10 := h10 (by simp [hdep])
          have fz16 := h16 (by simp [hdep])
          unfold OpSteps
          simp [go_sem, evS, fz10, fz16, hrx]
          exact ⟨fun h => by simpa [sput] using h0 (by simpa [did] using h), fun h => by simpa [sput] using h1 (by simpa [did] using h), fun h => by simpa [sput] using h2 (by simpa [did] using h), fun h => by simpa [sput] using h3 (by simpa [did] using h), fun h => by simpa [sput] using h4 (by simpa [did] using h), fun h => by simpa [sput] using h5 (by simpa [did] using h), fun h => by simpa [sput] using h6 (by simpa [did] using h), fun h => by simpa [sput] using h7 (by simpa [did] using h), fun h => by simpa [sput] using h8 (by simpa [did] using h), fun h => by simpa [sput] using h9 (by simpa [did] using h), fun h => by simpa [sput] using h10 (by simpa [did] using h), fun h => by simpa [sput] using h11 (by simpa [did] using h), fun h => by simpa [sput] using h12 (by simpa [did] using h), fun h => by simpa [sput] using h13 (by simpa [did] using h), fun h => by simpa [sput] using h14 (by simpa [did] using h), fun h => by simpa [sput] using h15 (by simpa [did] using h), fun h => by simpa [sput] using h16 (by simpa [did] using h), fun _ => by simp [sput], fun h => by simpa [sput] using h18 (by simpa [did] using h), fun h => by simpa [sput] using h19 (by simpa [did] using h), hT⟩
        · have fz4 := h4 (by simp [hdep])
          unfold OpSteps
          simp [go_sem, evS, fz4]
          exact ⟨fun h => by simpa [sput] using h0 (by simpa [did] using h), fun h => by simpa [sput] using h1 (by simpa [did] using h), fun h => by simpa [sput] using h2 (by simpa [did] using h), fun h => by simpa [sput] using h3 (by simpa [did] using h), fun h => by simpa [sput] using h4 (by simpa [did] using h), fun h => by simpa [sput] using h5 (by simpa [did] using h), fun h => by simpa [sput] using h6 (by simpa [did] using h), fun h => by simpa [sput] using h7 (by simpa [did] using h), fun h => by simpa [sput] using h8 (by simpa [did] using h), fun h => by simpa [sput] using h9 (by simpa [did] using h), fun h => by simpa [sput] using h10 (by simpa [did] using h), fun h => by simpa [sput] using h11 (by simpa [did] using h), fun h => by simpa [sput] using h12 (by simpa [did] using h), fun h => by simpa [sput] using h13 (by simpa [did] using h), fun h => by simpa [sput] using h14 (by simpa [did] using h), fun h => by simpa [sput] using h15 (by simpa [did] using h), fun h => by simpa [sput] using h16 (by simpa [did] using h), fun h => by simpa [sput] using h17 (by simpa [did] using h), fun _ => by simp [sput], fun h => by simpa [sput] using h19 (by simpa [did] using h), hT⟩
        · have fz17 := h17 (by simp [hdep])
          unfold OpSteps
          simp [go_sem, evS, fz17]
          exact ⟨fun h => by simpa [sput] using h0 (by simpa [did] using h), fun h => by simpa [sput] using h1 (by simpa [did] using h), fun h => by simpa [sput] using h2 (by simpa [did] using h), fun h => by simpa [sput] using h3 (by simpa [did] using h), fun h => by simpa [sput] using h4 (by simpa [did] using h), fun h => by simpa [sput] using h5 (by simpa [did] using h), fun h => by simpa [sput] using h6 (by simpa [did] using h), fun h => by simpa [sput] using h7 (by simpa [did] using h), fun h => by simpa [sput] using h8 (by simpa [did] using h), fun h => by simpa [sput] using h9 (by simpa [did] using h), fun h => by simpa [sput] using h10 (by simpa [did] using h), fun h => by simpa [sput] using h11 (by simpa [did] using h), fun h => by simpa [sput] using h12 (by simpa [did] using h), fun h => by simpa [sput] using h13 (by simpa [did] using h), fun h => by simpa [sput] using h14 (by simpa [did] using h), fun h => by simpa [sput] using h15 (by simpa [did] using h), fun h => by simpa [sput] using h16 (by simpa [did] using h), fun h => by simpa [sput] using h17 (by simpa [did] using h), fun h => by simpa [sput] using h18 (by simpa [did] using h), fun _ => by simp [sput], hT⟩
      intro d s W hJ hd
      obtain ⟨h0, h1, h2, h3, h4, h5, h6, h7, h8, h9, h10, h11, h12, h13, h14, h15, h16, h17, h18, h19, hT⟩ := hJ
      have hs4 := h18 (hd 18 (by decide))
      have hs5 := h19 (hd 19 (by decide))
      have HBe := Lib.hid (below_nx HBl.out hT)
      clear h0 h1 h2 h3 h4 h5 h6 h7 h8 h9 h10 h11 h12 h13 h14 h15 h16 h17 h18 h19 hT hd
      simp [setAll, hs4, hs5]
      clear hs4 hs5
      go_wp2_with fail
      go_ret2
      exact ⟨rfl, HBe.out⟩

set_option maxRecDepth 100000 in
set_option maxHeartbeats 4000000 in
theorem rsize_any (neg : Bool) (A : Option Addr) (n c : Nat) (l : List Nat) (E : Int) (neg' : Bool) (A' : Option Addr) (n' c' : Nat) (l' : List Nat) (E' : Int) (w : World) (h : Rd w A n c l) (h' : Rd w A' n' c' l') (hn : n ≤ 137438953472) (hn' : n' ≤ 137438953472) (hE : E.natAbs ≤ 137438953472) (hE' : E'.natAbs ≤ 137438953472)
    (fr tz : Int) (N : Nat) (hf : endsF n E n' E' = (fr, tz)) (hN : fr + N = tz) (r : Int) (hr : r = if dsum l E fr N < dsum l' E' fr N then -1 else if dsum l E fr N = dsum l' E' fr N then 0 else 1) :
    Calls Try.prog 78 #[.agg #[.bool neg, .slice A n c, .int .i64 E], .agg #[.bool neg', .slice A' n' c', .int .i64 E']] w fun e w' => e = .returned (.int .i64 r) ∧ Below w.heap.size w w' := by
  have hfb : fr.natAbs ≤ 1099511627775 ∧ tz.natAbs ≤ 1099511627775 := by
    unfold endsF at hf
    split at hf
    · injection hf with e1 e2; omega
    · split at hf
      · injection hf with e1 e2; omega
      · injection hf with e1 e2; omega
  have HEn := Lib.hid (fun W => rends_any neg A n c E neg' A' n' c' E' W (by omega) (by omega) (by omega) (by omega) fr tz hf)
  have HAt := Lib.hid (fun W (hb : Below w.heap.size w W) p (hp : p.natAbs ≤ 1099511627776) => rdat_any neg A n c l E p W (h.below hb) (by omega) (by omega) hp)
  have HAt' := Lib.hid (fun W (hb : Below w.heap.size w W) p (hp : p.natAbs ≤ 1099511627776) => rdat_any neg' A' n' c' l' E' p W (h'.below hb) (by omega) (by omega) hp)
  have HS := Lib.hid (And.intro h.2.2.2.1 h'.2.2.2.1)
  have HR := Lib.hid hr
  have hw0 : wrap64 (tz - 1) = tz - 1 := wrap64_in (by omega)
  have HFb := Lib.hid hfb
  have HNn := Lib.hid hN
  have HX := Lib.hid ((Blk.new w 69 #[.bool neg, .slice A n c, .int .i64 E]).alloc (.cells #[.bool neg', .slice A' n' c', .int .i64 E'] 69))
  have HY := Lib.hid (Blk.new_ (w.alloc (.cells #[.bool neg, .slice A n c, .int .i64 E] 69)) 69 #[.bool neg', .slice A' n' c', .int .i64 E'] (w.heap.size + 1) (by simp))
  have HBl := Lib.hid (((Below.refl w.heap.size w).alloc (Nat.le_refl _) (.cells #[.bool neg, .slice A n c, .int .i64 E] 69)).alloc (by simp) (.cells #[.bool neg', .slice A' n' c', .int .i64 E'] 69))
  clear h h' hn hn' hE hE' hf hr hfb
  go_enter Try.func78, Try.ntmps78
  obtain ⟨a0, a1, a2⟩ := cells3 HX.out
  obtain ⟨b0, b1, b2⟩ := cells3 HY.out
  go_wp2_with fail
  refine (HEn.out _).mono ?_
  rintro e w1 ⟨rfl, hb⟩
  have HX1 := Lib.hid (HX.out.next hb)
  have HY1 := Lib.hid (HY.out.next hb)
  have HB1 := Lib.hid (below_nx HBl.out hb)
  clear hb a0 a1 a2 b0 b1 b2
  go_wp2_with fail
  have HW0 := Lib.hid hw0
  clear hw0 hN
  go_loopw [7] (fun i wr => ∃ k : Nat, k ≤ N ∧ i = .int .i64 (fr + (k : Int) - 1) ∧ Hid ((∀ j : Nat, k ≤ j → j < N → dat l E (fr + j) = dat l' E' (fr + j)) ∧ Below w.heap.size w wr ∧ Blk wr w.heap.size 69 #[.bool neg, .slice A n c, .int .i64 E] ∧ Blk wr (w.heap.size + 1) 69 #[.bool neg', .slice A' n' c', .int .i64 E'])) (fun i _ => ((intOf i) - fr + 1).toNat)
  case atStart => exact ⟨N, Nat.le_refl _, by rw [HNn.out, HW0.out], Lib.hid ⟨fun j h1 h2 => by omega, HB1.out, HX1.out, HY1.out⟩⟩
  case round =>
    obtain ⟨k, hk, rfl, HH⟩ := hrel
    have HXr := Lib.hid HH.out.2.2.1
    have HYr := Lib.hid HH.out.2.2.2
    have HBr := Lib.hid HH.out.2.1
    cases k with
    | zero =>
      have hge : decide (fr ≤ fr + ((0 : Nat) : Int) - 1) = false := by simp; omega
      have HE := Lib.hid (show (0 : Int) = r by
        rw [HR.out, dsum_eq (l := l) (l' := l') (E := E) (E' := E') (fr := fr) N (fun j hj => HH.out.1 j (Nat.zero_le _) hj)]
        simp)
      go_wp2_with fail
      go_ret
      exact ⟨by rw [← HE.out]; rfl, HBr.out⟩
    | succ k =>
      obtain ⟨P, hP⟩ : ∃ P, fr + (k : Int) = P := ⟨_, rfl⟩
      have hP2 : fr + ((k + 1 : Nat) : Int) - 1 = P := by omega
      rw [hP2]
      have HPP := Lib.hid hP
      have HPb := Lib.hid (show P.natAbs ≤ 1099511627776 by have := HFb.out; have := HNn.out; omega)
      have hge : decide (fr ≤ P) = true := by simp; omega
      have hw1 : wrap64 (P - 1) = P - 1 := wrap64_in (by have := HPb.out; omega)
      obtain ⟨x, hx⟩ : ∃ x, dat l E P = x := ⟨_, rfl⟩
      obtain ⟨y, hy⟩ : ∃ y, dat l' E' P = y := ⟨_, rfl⟩
      have HAtP := Lib.hid (fun W (hb : Below w.heap.size w W) => HAt.out W hb P HPb.out)
      have HAtP' := Lib.hid (fun W (hb : Below w.heap.size w W) => HAt'.out W hb P HPb.out)
      rw [hx] at HAtP
      rw [hy] at HAtP'
      have HXY := Lib.hid (And.intro hx hy)
      clear hx hy hP hP2
      obtain ⟨a0, a1, a2⟩ := cells3 HXr.out
      obtain ⟨b0, b1, b2⟩ := cells3 HYr.out
      by_cases hxy : x = y
      · have hne : ((x : Int) == (y : Int)) = true := by simp [hxy]
        have hne2 : ((x : Int) != (y : Int)) = false := by simp [hxy]
        have HEq := Lib.hid hxy
        clear hxy
        go_wp2_with fail
        refine wp_region_inv [21, 22, 23, 24, 25, 26, 27] (fun d s W => (d 0 = true → s 21 = .agg #[.bool neg, .slice A n c, .int .i64 E]) ∧ (d 1 = true → s 22 = .int .i64 P) ∧ (d 2 = true → s 23 = .int .i64 (x : Int)) ∧ (d 3 = true → s 24 = .agg #[.bool neg', .slice A' n' c', .int .i64 E']) ∧ (d 4 = true → s 25 = .int .i64 P) ∧ (d 5 = true → s 26 = .int .i64 (y : Int)) ∧ (d 6 = true → s 27 = .bool false) ∧ Below wr.heap.size wr W)
          rfl (by kernel_rfl) ?_ ?_ ?_
        · exact ⟨by simp, by simp, by simp, by simp, by simp, by simp, by simp, (Below.refl _ _).drew⟩
        · refine ⟨?_, ?_, ?_, ?_, ?_, ?_, ?_, trivial⟩
          all_goals
            intro d s W hJ hfr hd hdep
            simp only [List.mem_cons, forall_eq_or_imp, List.not_mem_nil, false_implies, implies_true, and_true, Region.binds] at hdep
            have f2 := hfr 2 (by decide)
            have f3 := hfr 3 (by decide)
            have f7 := hfr 7 (by decide)
            simp at f2 f3 f7 hdep
            obtain ⟨h0, h1, h2, h3, h4, h5, h6, hT⟩ := hJ
          · unfold OpSteps
            obtain ⟨p0, p1, p2⟩ := cells3 (HXr.out.below hT HXr.out.lt)
            simp [go_sem, evS, f2, p0, p1, p2]
            exact ⟨fun _ => by simp [sput], fun h => by simpa [sput] using h1 (by simpa [did] using h), fun h => by simpa [sput] using h2 (by simpa [did] using h), fun h => by simpa [sput] using h3 (by simpa [did] using h), fun h => by simpa [sput] using h4 (by simpa [did] using h), fun h => by simpa [sput] using h5 (by simpa [did] using h), fun h => by simpa [sput] using h6 (by simpa [did] using h), hT⟩
          · unfold OpSteps
            simp [go_sem, evS, f7]
            exact ⟨fun h => by simpa [sput] using h0 (by simpa [did] using h), fun _ => by simp [sput], fun h => by simpa [sput] using h2 (by simpa [did] using h), fun h => by simpa [sput] using h3 (by simpa [did] using h), fun h => by simpa [sput] using h4 (by simpa [did] using h), fun h => by simpa [sput] using h5 (by simpa [did] using h), fun h => by simpa [sput] using h6 (by simpa [did] using h), hT⟩
          · have fz0 := h0 (by simp [hdep])
            have fz1 := h1 (by simp [hdep])
            unfold OpSteps
            simp [go_sem, evS, fz0, fz1]
            refine (HAtP.out W (below_nx HBr.out hT)).mono ?_
            rintro e W' ⟨rfl, hb⟩
            refine ⟨_, rfl, ?_⟩
            exact ⟨fun h => by simpa [sput] using h0 (by simpa [did] using h), fun h => by simpa [sput] using h1 (by simpa [did] using h), fun _ => by simp [sput], fun h => by simpa [sput] using h3 (by simpa [did] using h), fun h => by simpa [sput] using h4 (by simpa [did] using h), fun h => by simpa [sput] using h5 (by simpa [did] using h), fun h => by simpa [sput] using h6 (by simpa [did] using h), below_nx hT hb⟩
          · unfold OpSteps
            obtain ⟨p0, p1, p2⟩ := cells3 (HYr.out.below hT HYr.out.lt)
            simp [go_sem, evS, f3, p0, p1, p2]
            exact ⟨fun h => by simpa [sput] using h0 (by simpa [did] using h), fun h => by simpa [sput] using h1 (by simpa [did] using h), fun h => by simpa [sput] using h2 (by simpa [did] using h), fun _ => by simp [sput], fun h => by simpa [sput] using h4 (by simpa [did] using h), fun h => by simpa [sput] using h5 (by simpa [did] using h), fun h => by simpa [sput] using h6 (by simpa [did] using h), hT⟩
          · unfold OpSteps
            simp [go_sem, evS, f7]
            exact ⟨fun h => by simpa [sput] using h0 (by simpa [did] using h), fun h => by simpa [sput] using h1 (by simpa [did] using h), fun h => by simpa [sput] using h2 (by simpa [did] using h), fun h => by simpa [sput] using h3 (by simpa [did] using h), fun _ => by simp [sput], fun h => by simpa [sput] using h5 (by simpa [did] using h), fun h => by simpa [sput] using h6 (by simpa [did] using h), hT⟩
          · have fz3 := h3 (by simp [hdep])
            have fz4 := h4 (by simp [hdep])
            unfold OpSteps
            simp [go_sem, evS, fz3, fz4]
            refine (HAtP'.out W (below_nx HBr.out hT)).mono ?_
            rintro e W' ⟨rfl, hb⟩
            refine ⟨_, rfl, ?_⟩
            exact ⟨fun h => by simpa [sput] using h0 (by simpa [did] using h), fun h => by simpa [sput] using h1 (by simpa [did] using h), fun h => by simpa [sput] using h2 (by simpa [did] using h), fun h => by simpa [sput] using h3 (by simpa [did] using h), fun h => by simpa [sput] using h4 (by simpa [did] using h), fun _ => by simp [sput], fun h => by simpa [sput] using h6 (by simpa [did] using h), below_nx hT hb⟩
          · have fz2 := h2 (by simp [hdep])
            have fz5 := h5 (by simp [hdep])
            unfold OpSteps
            simp [go_sem, evS, fz2, fz5, hne, hne2]
            exact ⟨fun h => by simpa [sput] using h0 (by simpa [did] using h), fun h => by simpa [sput] using h1 (by simpa [did] using h), fun h => by simpa [sput] using h2 (by simpa [did] using h), fun h => by simpa [sput] using h3 (by simpa [did] using h), fun h => by simpa [sput] using h4 (by simpa [did] using h), fun h => by simpa [sput] using h5 (by simpa [did] using h), fun _ => by simp [sput], hT⟩
        intro d s W hJ hd
        obtain ⟨h0, h1, h2, h3, h4, h5, h6, hT⟩ := hJ
        have hs27 := h6 (hd 6 (by decide))
        have hb : Below wr.heap.size wr W := hT
        clear h0 h1 h2 h3 h4 h5 h6 hT hd
        simp [setAll, hs27]
        clear hs27
        generalize s 21 = s21
        generalize s 22 = s22
        generalize s 23 = s23
        generalize s 24 = s24
        generalize s 25 = s25
        generalize s 26 = s26
        have HXn := Lib.hid (HXr.out.next hb)
        have HYn := Lib.hid (HYr.out.next hb)
        have HBn := Lib.hid (below_nx HBr.out hb)
        clear hb a0 a1 a2 b0 b1 b2
        generalize W = wn at *
        clear hne hne2
        go_wp2_with fail
        go_roundw
        case rel =>
          refine ⟨k, by omega, by rw [HPP.out, hw1], Lib.hid ⟨fun j h1 h2 => ?_, HBn.out, HXn.out, HYn.out⟩⟩
          by_cases e : j = k
          · subst e
            rw [HPP.out, HXY.out.1, HXY.out.2]; exact HEq.out
          · exact HH.out.1 j (by omega) h2
        case measure => have := HPP.out; simp [intOf]; omega
      · have hne : ((x : Int) == (y : Int)) = false := by simp; omega
        have hne2 : ((x : Int) != (y : Int)) = true := by simp; omega
        have HNe := Lib.hid hxy
        clear hxy
        go_wp2_with fail
        refine wp_region_inv [21, 22, 23, 24, 25, 26, 27] (fun d s W => (d 0 = true → s 21 = .agg #[.bool neg, .slice A n c, .int .i64 E]) ∧ (d 1 = true → s 22 = .int .i64 P) ∧ (d 2 = true → s 23 = .int .i64 (x : Int)) ∧ (d 3 = true → s 24 = .agg #[.bool neg', .slice A' n' c', .int .i64 E']) ∧ (d 4 = true → s 25 = .int .i64 P) ∧ (d 5 = true → s 26 = .int .i64 (y : Int)) ∧ (d 6 = true → s 27 = .bool true) ∧ Below wr.heap.size wr W)
          rfl (by kernel_rfl) ?_ ?_ ?_
        · exact ⟨by simp, by simp, by simp, by simp, by simp, by simp, by simp, (Below.refl _ _).drew⟩
        · refine ⟨?_, ?_, ?_, ?_, ?_, ?_, ?_, trivial⟩
          all_goals
            intro d s W hJ hfr hd hdep
            simp only [List.mem_cons, forall_eq_or_imp, List.not_mem_nil, false_implies, implies_true, and_true, Region.binds] at hdep
            have f2 := hfr 2 (by decide)
            have f3 := hfr 3 (by decide)
            have f7 := hfr 7 (by decide)
            simp at f2 f3 f7 hdep
            obtain ⟨h0, h1, h2, h3, h4, h5, h6, hT⟩ := hJ
          · unfold OpSteps
            obtain ⟨p0, p1, p2⟩ := cells3 (HXr.out.below hT HXr.out.lt)
            simp [go_sem, evS, f2, p0, p1, p2]
            exact ⟨fun _ => by simp [sput], fun h => by simpa [sput] using h1 (by simpa [did] using h), fun h => by simpa [sput] using h2 (by simpa [did] using h), fun h => by simpa [sput] using h3 (by simpa [did] using h), fun h => by simpa [sput] using h4 (by simpa [did] using h), fun h => by simpa [sput] using h5 (by simpa [did] using h), fun h => by simpa [sput] using h6 (by simpa [did] using h), hT⟩
          · unfold OpSteps
            simp [go_sem, evS, f7]
            exact ⟨fun h => by simpa [sput] using h0 (by simpa [did] using h), fun _ => by simp [sput], fun h => by simpa [sput] using h2 (by simpa [did] using h), fun h => by simpa [sput] using h3 (by simpa [did] using h), fun h => by simpa [sput] using h4 (by simpa [did] using h), fun h => by simpa [sput] using h5 (by simpa [did] using h), fun h => by simpa [sput] using h6 (by simpa [did] using h), hT⟩
          · have fz0 := h0 (by simp [hdep])
            have fz1 := h1 (by simp [hdep])
            unfold OpSteps
            simp [go_sem, evS, fz0, fz1]
            refine (HAtP.out W (below_nx HBr.out hT)).mono ?_
            rintro e W' ⟨rfl, hb⟩
            refine ⟨_, rfl, ?_⟩
            exact ⟨fun h => by simpa [sput] using h0 (by simpa [did] using h), fun h => by simpa [sput] using h1 (by simpa [did] using h), fun _ => by simp [sput], fun h => by simpa [sput] using h3 (by simpa [did] using h), fun h => by simpa [sput] using h4 (by simpa [did] using h), fun h => by simpa [sput] using h5 (by simpa [did] using h), fun h => by simpa [sput] using h6 (by simpa [did] using h), below_nx hT hb⟩
          · unfold OpSteps
            obtain ⟨p0, p1, p2⟩ := cells3 (HYr.out.below hT HYr.out.lt)
            simp [go_sem, evS, f3, p0, p1, p2]
            exact ⟨fun h => by simpa [sput] using h0 (by simpa [did] using h), fun h => by simpa [sput] using h1 (by simpa [did] using h), fun h => by simpa [sput] using h2 (by simpa [did] using h), fun _ => by simp [sput], fun h => by simpa [sput] using h4 (by simpa [did] using h), fun h => by simpa [sput] using h5 (by simpa [did] using h), fun h => by simpa [sput] using h6 (by simpa [did] using h), hT⟩
          · unfold OpSteps
            simp [go_sem, evS, f7]
            exact ⟨fun h => by simpa [sput] using h0 (by simpa [did] using h), fun h => by simpa [sput] using h1 (by simpa [did] using h), fun h => by simpa [sput] using h2 (by simpa [did] using h), fun h => by simpa [sput] using h3 (by simpa [did] using h), fun _ => by simp [sput], fun h => by simpa [sput] using h5 (by simpa [did] using h), fun h => by simpa [sput] using h6 (by simpa [did] using h), hT⟩
          · have fz3 := h3 (by simp [hdep])
            have fz4 := h4 (by simp [hdep])
            unfold OpSteps
            simp [go_sem, evS, fz3, fz4]
            refine (HAtP'.out W (below_nx HBr.out hT)).mono ?_
            rintro e W' ⟨rfl, hb⟩
            refine ⟨_, rfl, ?_⟩
            exact ⟨fun h => by simpa [sput] using h0 (by simpa [did] using h), fun h => by simpa [sput] using h1 (by simpa [did] using h), fun h => by simpa [sput] using h2 (by simpa [did] using h), fun h => by simpa [sput] using h3 (by simpa [did] using h), fun h => by simpa [sput] using h4 (by simpa [did] using h), fun _ => by simp [sput], fun h => by simpa [sput] using h6 (by simpa [did] using h), below_nx hT hb⟩
          · have fz2 := h2 (by simp [hdep])
            have fz5 := h5 (by simp [hdep])
            unfold OpSteps
            simp [go_sem, evS, fz2, fz5, hne, hne2]
            exact ⟨fun h => by simpa [sput] using h0 (by simpa [did] using h), fun h => by simpa [sput] using h1 (by simpa [did] using h), fun h => by simpa [sput] using h2 (by simpa [did] using h), fun h => by simpa [sput] using h3 (by simpa [did] using h), fun h => by simpa [sput] using h4 (by simpa [did] using h), fun h => by simpa [sput] using h5 (by simpa [did] using h), fun _ => by simp [sput], hT⟩
        intro d s W hJ hd
        obtain ⟨h0, h1, h2, h3, h4, h5, h6, hT⟩ := hJ
        have hs27 := h6 (hd 6 (by decide))
        have hb : Below wr.heap.size wr W := hT
        clear h0 h1 h2 h3 h4 h5 h6 hT hd
        simp [setAll, hs27]
        clear hs27
        generalize s 21 = s21
        generalize s 22 = s22
        generalize s 23 = s23
        generalize s 24 = s24
        generalize s 25 = s25
        generalize s 26 = s26
        have HXn := Lib.hid (HXr.out.next hb)
        have HYn := Lib.hid (HYr.out.next hb)
        have HBn := Lib.hid (below_nx HBr.out hb)
        clear hb a0 a1 a2 b0 b1 b2
        generalize W = wn at *
        clear hne hne2
        have HXr := HXn
        have HYr := HYn
        have HBr := HBn
        generalize wn = wr at *
        obtain ⟨a0, a1, a2⟩ := cells3 HXr.out
        obtain ⟨b0, b1, b2⟩ := cells3 HYr.out
        by_cases hlt : x < y
        · have hlt2 : decide (x < y) = true := by simpa using hlt
          have HE := Lib.hid (show (-1 : Int) = r by
            rw [HR.out, if_pos (dsum_cmp HS.out.1 HS.out.2 E E' fr k (by rw [HPP.out, HXY.out.1, HXY.out.2]; exact hlt) N (by omega) (fun j h1 h2 => HH.out.1 j (by omega) h2))])
          clear hlt
          go_wp2_with fail
          refine wp_region_inv [28, 29, 30, 31, 32, 33, 34] (fun d s W => (d 0 = true → s 28 = .agg #[.bool neg, .slice A n c, .int .i64 E]) ∧ (d 1 = true → s 29 = .int .i64 P) ∧ (d 2 = true → s 30 = .int .i64 (x : Int)) ∧ (d 3 = true → s 31 = .agg #[.bool neg', .slice A' n' c', .int .i64 E']) ∧ (d 4 = true → s 32 = .int .i64 P) ∧ (d 5 = true → s 33 = .int .i64 (y : Int)) ∧ (d 6 = true → s 34 = .bool true) ∧ Below wr.heap.size wr W)
            rfl (by kernel_rfl) ?_ ?_ ?_
          · exact ⟨by simp, by simp, by simp, by simp, by simp, by simp, by simp, (Below.refl _ _).drew⟩
          · refine ⟨?_, ?_, ?_, ?_, ?_, ?_, ?_, trivial⟩
            all_goals
              intro d s W hJ hfr hd hdep
              simp only [List.mem_cons, forall_eq_or_imp, List.not_mem_nil, false_implies, implies_true, and_true, Region.binds] at hdep
              have f2 := hfr 2 (by decide)
              have f3 := hfr 3 (by decide)
              have f7 := hfr 7 (by decide)
              simp at f2 f3 f7 hdep
              obtain ⟨h0, h1, h2, h3, h4, h5, h6, hT⟩ := hJ
            · unfold OpSteps
              obtain ⟨p0, p1, p2⟩ := cells3 (HXr.out.below hT HXr.out.lt)
              simp [go_sem, evS, f2, p0, p1, p2]
              exact ⟨fun _ => by simp [sput], fun h => by simpa [sput] using h1 (by simpa [did] using h), fun h => by simpa [sput] using h2 (by simpa [did] using h), fun h => by simpa [sput] using h3 (by simpa [did] using h), fun h => by simpa [sput] using h4 (by simpa [did] using h), fun h => by simpa [sput] using h5 (by simpa [did] using h), fun h => by simpa [sput] using h6 (by simpa [did] using h), hT⟩
            · unfold OpSteps
              simp [go_sem, evS, f7]
              exact ⟨fun h => by simpa [sput] using h0 (by simpa [did] using h), fun _ => by simp [sput], fun h => by simpa [sput] using h2 (by simpa [did] using h), fun h => by simpa [sput] using h3 (by simpa [did] using h), fun h => by simpa [sput] using h4 (by simpa [did] using h), fun h => by simpa [sput] using h5 (by simpa [did] using h), fun h => by simpa [sput] using h6 (by simpa [did] using h), hT⟩
            · have fz0 := h0 (by simp [hdep])
              have fz1 := h1 (by simp [hdep])
              unfold OpSteps
              simp [go_sem, evS, fz0, fz1]
              refine (HAtP.out W (below_nx HBr.out hT)).mono ?_
              rintro e W' ⟨rfl, hb⟩
              refine ⟨_, rfl, ?_⟩
              exact ⟨fun h => by simpa [sput] using h0 (by simpa [did] using h), fun h => by simpa [sput] using h1 (by simpa [did] using h), fun _ => by simp [sput], fun h => by simpa [sput] using h3 (by simpa [did] using h), fun h => by simpa [sput] using h4 (by simpa [did] using h), fun h => by simpa [sput] using h5 (by simpa [did] using h), fun h => by simpa [sput] using h6 (by simpa [did] using h), below_nx hT hb⟩
            · unfold OpSteps
              obtain ⟨p0, p1, p2⟩ := cells3 (HYr.out.below hT HYr.out.lt)
              simp [go_sem, evS, f3, p0, p1, p2]
              exact ⟨fun h => by simpa [sput] using h0 (by simpa [did] using h), fun h => by simpa [sput] using h1 (by simpa [did] using h), fun h => by simpa [sput] using h2 (by simpa [did] using h), fun _ => by simp [sput], fun h => by simpa [sput] using h4 (by simpa [did] using h), fun h => by simpa [sput] using h5 (by simpa [did] using h), fun h => by simpa [sput] using h6 (by simpa [did] using h), hT⟩
            · unfold OpSteps
              simp [go_sem, evS, f7]
              exact ⟨fun h => by simpa [sput] using h0 (by simpa [did] using h), fun h => by simpa [sput] using h1 (by simpa [did] using h), fun h => by simpa [sput] using h2 (by simpa [did] using h), fun h => by simpa [sput] using h3 (by simpa [did] using h), fun _ => by simp [sput], fun h => by simpa [sput] using h5 (by simpa [did] using h), fun h => by simpa [sput] using h6 (by simpa [did] using h), hT⟩
            · have fz3 := h3 (by simp [hdep])
              have fz4 := h4 (by simp [hdep])
              unfold OpSteps
              simp [go_sem, evS, fz3, fz4]
              refine (HAtP'.out W (below_nx HBr.out hT)).mono ?_
              rintro e W' ⟨rfl, hb⟩
              refine ⟨_, rfl, ?_⟩
              exact ⟨fun h => by simpa [sput] using h0 (by simpa [did] using h), fun h => by simpa [sput] using h1 (by simpa [did] using h), fun h => by simpa [sput] using h2 (by simpa [did] using h), fun h => by simpa [sput] using h3 (by simpa [did] using h), fun h => by simpa [sput] using h4 (by simpa [did] using h), fun _ => by simp [sput], fun h => by simpa [sput] using h6 (by simpa [did] using h), below_nx hT hb⟩
            · have fz2 := h2 (by simp [hdep])
              have fz5 := h5 (by simp [hdep])
              unfold OpSteps
              simp [go_sem, evS, fz2, fz5, hlt2]
              exact ⟨fun h => by simpa [sput] using h0 (by simpa [did] using h), fun h => by simpa [sput] using h1 (by simpa [did] using h), fun h => by simpa [sput] using h2 (by simpa [did] using h), fun h => by simpa [sput] using h3 (by simpa [did] using h), fun h => by simpa [sput] using h4 (by simpa [did] using h), fun h => by simpa [sput] using h5 (by simpa [did] using h), fun _ => by simp [sput], hT⟩
          intro d s W hJ hd
          obtain ⟨h0, h1, h2, h3, h4, h5, h6, hT⟩ := hJ
          have hs34 := h6 (hd 6 (by decide))
          have hb : Below wr.heap.size wr W := hT
          clear h0 h1 h2 h3 h4 h5 h6 hT hd
          simp [setAll, hs34]
          clear hs34
          generalize s 28 = s28
          generalize s 29 = s29
          generalize s 30 = s30
          generalize s 31 = s31
          generalize s 32 = s32
          generalize s 33 = s33
          have HBe := Lib.hid (below_nx HBr.out hb)
          clear hb
          go_wp2_with fail
          go_ret
          exact ⟨by rw [← HE.out]; rfl, HBe.out⟩
        · have hlt2 : decide (x < y) = false := by simpa using hlt
          have HE := Lib.hid (show (1 : Int) = r by
            have h1 := dsum_cmp HS.out.2 HS.out.1 E' E fr k (by rw [HPP.out, HXY.out.1, HXY.out.2]; have := HNe.out; omega) N (by omega) (fun j h1 h2 => (HH.out.1 j (by omega) h2).symm)
            rw [HR.out, if_neg (by omega), if_neg (by omega)])
          clear hlt
          go_wp2_with fail
          refine wp_region_inv [28, 29, 30, 31, 32, 33, 34] (fun d s W => (d 0 = true → s 28 = .agg #[.bool neg, .slice A n c, .int .i64 E]) ∧ (d 1 = true → s 29 = .int .i64 P) ∧ (d 2 = true → s 30 = .int .i64 (x : Int)) ∧ (d 3 = true → s 31 = .agg #[.bool neg', .slice A' n' c', .int .i64 E']) ∧ (d 4 = true → s 32 = .int .i64 P) ∧ (d 5 = true → s 33 = .int .i64 (y : Int)) ∧ (d 6 = true → s 34 = .bool false) ∧ Below wr.heap.size wr W)
            rfl (by kernel_rfl) ?_ ?_ ?_
          · exact ⟨by simp, by simp, by simp, by simp, by simp, by simp, by simp, (Below.refl _ _).drew⟩
          · refine ⟨?_, ?_, ?_, ?_, ?_, ?_, ?_, trivial⟩
            all_goals
              intro d s W hJ hfr hd hdep
              simp only [List.mem_cons, forall_eq_or_imp, List.not_mem_nil, false_implies, implies_true, and_true, Region.binds] at hdep
              have f2 := hfr 2 (by decide)
              have f3 := hfr 3 (by decide)
              have f7 := hfr 7 (by decide)
              simp at f2 f3 f7 hdep
              obtain ⟨h0, h1, h2, h3, h4, h5, h6, hT⟩ := hJ
            · unfold OpSteps
              obtain ⟨p0, p1, p2⟩ := cells3 (HXr.out.below hT HXr.out.lt)
              simp [go_sem, evS, f2, p0, p1, p2]
              exact ⟨fun _ => by simp [sput], fun h => by simpa [sput] using h1 (by simpa [did] using h), fun h => by simpa [sput] using h2 (by simpa [did] using h), fun h => by simpa [sput] using h3 (by simpa [did] using h), fun h => by simpa [sput] using h4 (by simpa [did] using h), fun h => by simpa [sput] using h5 (by simpa [did] using h), fun h => by simpa [sput] using h6 (by simpa [did] using h), hT⟩
            · unfold OpSteps
              simp [go_sem, evS, f7]
              exact ⟨fun h => by simpa [sput] using h0 (by simpa [did] using h), fun _ => by simp [sput], fun h => by simpa [sput] using h2 (by simpa [did] using h), fun h => by simpa [sput] using h3 (by simpa [did] using h), fun h => by simpa [sput] using h4 (by simpa [did] using h), fun h => by simpa [sput] using h5 (by simpa [did] using h), fun h => by simpa [sput] using h6 (by simpa [did] using h), hT⟩
            · have fz0 := h0 (by simp [hdep])
              have fz1 := h1 (by simp [hdep])
              unfold OpSteps
              simp [go_sem, evS, fz0, fz1]
              refine (HAtP.out W (below_nx HBr.out hT)).mono ?_
              rintro e W' ⟨rfl, hb⟩
              refine ⟨_, rfl, ?_⟩
              exact ⟨fun h => by simpa [sput] using h0 (by simpa [did] using h), fun h => by simpa [sput] using h1 (by simpa [did] using h), fun _ => by simp [sput], fun h => by simpa [sput] using h3 (by simpa [did] using h), fun h => by simpa [sput] using h4 (by simpa [did] using h), fun h => by simpa [sput] using h5 (by simpa [did] using h), fun h => by simpa [sput] using h6 (by simpa [did] using h), below_nx hT hb⟩
            · unfold OpSteps
              obtain ⟨p0, p1, p2⟩ := cells3 (HYr.out.below hT HYr.out.lt)
              simp [go_sem, evS, f3, p0, p1, p2]
              exact ⟨fun h => by simpa [sput] using h0 (by simpa [did] using h), fun h => by simpa [sput] using h1 (by simpa [did] using h), fun h => by simpa [sput] using h2 (by simpa [did] using h), fun _ => by simp [sput], fun h => by simpa [sput] using h4 (by simpa [did] using h), fun h => by simpa [sput] using h5 (by simpa [did] using h), fun h => by simpa [sput] using h6 (by simpa [did] using h), hT⟩
            · unfold OpSteps
              simp [go_sem, evS, f7]
              exact ⟨fun h => by simpa [sput] using h0 (by simpa [did] using h), fun h => by simpa [sput] using h1 (by simpa [did] using h), fun h => by simpa [sput] using h2 (by simpa [did] using h), fun h => by simpa [sput] using h3 (by simpa [did] using h), fun _ => by simp [sput], fun h => by simpa [sput] using h5 (by simpa [did] using h), fun h => by simpa [sput] using h6 (by simpa [did] using h), hT⟩
            · have fz3 := h3 (by simp [hdep])
              have fz4 := h4 (by simp [hdep])
              unfold OpSteps
              simp [go_sem, evS, fz3, fz4]
              refine (HAtP'.out W (below_nx HBr.out hT)).mono ?_
              rintro e W' ⟨rfl, hb⟩
              refine ⟨_, rfl, ?_⟩
              exact ⟨fun h => by simpa [sput] using h0 (by simpa [did] using h), fun h => by simpa [sput] using h1 (by simpa [did] using h), fun h => by simpa [sput] using h2 (by simpa [did] using h), fun h => by simpa [sput] using h3 (by simpa [did] using h), fun h => by simpa [sput] using h4 (by simpa [did] using h), fun _ => by simp [sput], fun h => by simpa [sput] using h6 (by simpa [did] using h), below_nx hT hb⟩
            · have fz2 := h2 (by simp [hdep])
              have fz5 := h5 (by simp [hdep])
              unfold OpSteps
              simp [go_sem, evS, fz2, fz5, hlt2]
              exact ⟨fun h => by simpa [sput] using h0 (by simpa [did] using h), fun h => by simpa [sput] using h1 (by simpa [did] using h), fun h => by simpa [sput] using h2 (by simpa [did] using h), fun h => by simpa [sput] using h3 (by simpa [did] using h), fun h => by simpa [sput] using h4 (by simpa [did] using h), fun h => by simpa [sput] using h5 (by simpa [did] using h), fun _ => by simp [sput], hT⟩
          intro d s W hJ hd
          obtain ⟨h0, h1, h2, h3, h4, h5, h6, hT⟩ := hJ
          have hs34 := h6 (hd 6 (by decide))
          have hb : Below wr.heap.size wr W := hT
          clear h0 h1 h2 h3 h4 h5 h6 hT hd
          simp [setAll, hs34]
          clear hs34
          generalize s 28 = s28
          generalize s 29 = s29
          generalize s 30 = s30
          generalize s 31 = s31
          generalize s 32 = s32
          generalize s 33 = s33
          have HBe := Lib.hid (below_nx HBr.out hb)
          clear hb
          go_wp2_with fail
          go_ret
          exact ⟨by rw [← HE.out]; rfl, HBe.out⟩
end Go.Proofs.Ytelpdbkkefpjhaa
