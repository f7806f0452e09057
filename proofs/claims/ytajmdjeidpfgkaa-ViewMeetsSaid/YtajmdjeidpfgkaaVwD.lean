/-
The document's example; ViewRight. Conditions: none.
-/
import Derived.Test.YtajmdjeidpfgkaaVwC
set_option linter.unusedVariables false
namespace Go.Proofs.Ytajmdjeidpfgkaa
open Go.RowKit
attribute [local go_sem ↓] Go.wp_at_zero Go.wp_at_succ

theorem run_field_D (A : Option Addr) (n c : Nat) (off r k ld : Int) (w : World) :
    (Instr.field 26 (.agg #[.slice A n c, .int .i64 off, .int .i64 r, .int .i64 k, .int .i64 ld]) 0).run Try.prog w = .ok (.slice A n c) w := by kernel_rfl
attribute [go_sem] run_field_D
theorem cells4v {w : World} {g : Nat} {t : TypeId} {v0 v1 v2 v3 : Value} (h : Blk w g t #[v0, v1, v2, v3]) :
    w.cell? ⟨g, 0, none⟩ = some v0 ∧ w.cell? ⟨g, 1, none⟩ = some v1 ∧ w.cell? ⟨g, 2, none⟩ = some v2 ∧ w.cell? ⟨g, 3, none⟩ = some v3 :=
  ⟨h.cell 0, h.cell 1, h.cell 2, h.cell 3⟩
theorem dense_ex {M : List Nat} {a b c d : Nat} (h : Dense [a, b, c, d] 2 2 M) : M = [a, c, b, d] := by
  obtain ⟨hl, hp⟩ := h
  match M, hl with
  | [x0, x1, x2, x3], _ =>
    have h0 := hp 0 (by omega)
    have h1 := hp 1 (by omega)
    have h2 := hp 2 (by omega)
    have h3 := hp 3 (by omega)
    simp [spot] at h0 h1 h2 h3
    simp [h0, h1, h2, h3]
theorem four_wds : Wds [4607182418800017408, 4613937818241073152, 4611686018427387904, 4616189618054758400] := by
  intro b hb
  simp at hb
  omega

set_option maxRecDepth 100000 in
theorem awake_any (w : World) : Calls Try.prog 7 #[] w fun e w' => e = .returned (.bool true) ∧ Below w.heap.size w w' := by
  have hB := Blk.new w 31 (f64s [4607182418800017408, 4611686018427387904, 4613937818241073152, 4616189618054758400]).toArray
  have hR := row_of_blk hB
  have HR := Lib.hid hR
  clear hB hR
  go_enter Try.func7, Try.ntmps7
  go_wp2_with fail
  refine (dense_some (some ⟨w.heap.size, 0, none⟩) 4 [4607182418800017408, 4611686018427387904, 4613937818241073152, 4616189618054758400] 2 2 _ (by omega) (by omega) HR.out (by decide) (by decide)).mono ?_
  rintro e w1 ⟨g, M, rfl, hd, hr, hg, hb⟩
  obtain rfl := dense_ex hd
  have hr1 := hr.below (((Below.refl w1.heap.size w1).alloc (Nat.le_refl _) (.cells (f64s [4607182418800017408, 4613937818241073152, 4611686018427387904, 4616189618054758400]).toArray 31)))
  have hr2 := row_of_blk (Blk.new w1 31 (f64s [4607182418800017408, 4613937818241073152, 4611686018427387904, 4616189618054758400]).toArray)
  have HR1 := Lib.hid hr1
  have HR2 := Lib.hid hr2
  have HB := Lib.hid hb
  clear hr1 hr2 hr hd hb
  unfold mat
  go_wp2_with fail
  refine (rall_any (some ⟨g, 0, none⟩) (some ⟨w1.heap.size, 0, none⟩) 4 4 _ _ _ four_wds four_wds HR1.out HR2.out (by decide) (Alike.refl _)).mono ?_
  rintro e w2 ⟨rfl, hb2⟩
  have HB2 := Lib.hid hb2
  clear hb2
  go_wp2_with fail
  go_ret
  refine ⟨rfl, ?_⟩
  have s1 := HB.out.size
  simp at s1
  exact ((((Below.refl _ _).alloc (Nat.le_refl _) _).trans (HB.out.mono (by simp))).alloc (by omega) _).trans (HB2.out.mono (by simp; omega))
theorem held9 {w W w' : World} {b0 o0 b1 o1 b2 o2 b3 o3 b4 o4 b5 o5 b6 o6 b7 o7 b8 o8 : Nat} {v0 v1 v2 v3 v4 v5 v6 v7 v8 : Value} (h : W.cell? ⟨b0, o0, none⟩ = some v0 ∧ W.cell? ⟨b1, o1, none⟩ = some v1 ∧ W.cell? ⟨b2, o2, none⟩ = some v2 ∧ W.cell? ⟨b3, o3, none⟩ = some v3 ∧ W.cell? ⟨b4, o4, none⟩ = some v4 ∧ W.cell? ⟨b5, o5, none⟩ = some v5 ∧ W.cell? ⟨b6, o6, none⟩ = some v6 ∧ W.cell? ⟨b7, o7, none⟩ = some v7 ∧ W.cell? ⟨b8, o8, none⟩ = some v8 ∧ Below w.heap.size w W) (hb : Below W.heap.size W w') :
    w'.cell? ⟨b0, o0, none⟩ = some v0 ∧ w'.cell? ⟨b1, o1, none⟩ = some v1 ∧ w'.cell? ⟨b2, o2, none⟩ = some v2 ∧ w'.cell? ⟨b3, o3, none⟩ = some v3 ∧ w'.cell? ⟨b4, o4, none⟩ = some v4 ∧ w'.cell? ⟨b5, o5, none⟩ = some v5 ∧ w'.cell? ⟨b6, o6, none⟩ = some v6 ∧ w'.cell? ⟨b7, o7, none⟩ = some v7 ∧ w'.cell? ⟨b8, o8, none⟩ = some v8 ∧ Below w.heap.size w w' :=
  ⟨cell_below h.1 hb, cell_below h.2.1 hb, cell_below h.2.2.1 hb, cell_below h.2.2.2.1 hb, cell_below h.2.2.2.2.1 hb, cell_below h.2.2.2.2.2.1 hb, cell_below h.2.2.2.2.2.2.1 hb, cell_below h.2.2.2.2.2.2.2.1 hb, cell_below h.2.2.2.2.2.2.2.2.1 hb, h.2.2.2.2.2.2.2.2.2.trans (hb.mono h.2.2.2.2.2.2.2.2.2.size)⟩

set_option maxHeartbeats 1000000 in
theorem viewRight_walk (A : Option Addr) (n c : Nat) (off k inc : Int) (A' : Option Addr) (n' c' : Nat) (off' r' k' ld' : Int) (w : World) (hn : n < 9223372036854775808) (ho : I64 off) (hk : I64 k) (hi : I64 inc)
    (hn' : n' < 9223372036854775808) (ho' : I64 off') (hr' : I64 r') (hk' : I64 k') (hi' : I64 ld') :
    Calls Try.prog 3 #[vec A n c off k inc, mat A' n' c' off' r' k' ld'] w fun e w' => e = .returned (.bool true) ∧ Below w.heap.size w w' := by
  have H1 := Lib.hid (fun W => right_any A n c off k inc W hn ho hk hi)
  have H2 := Lib.hid (fun W => rright_any A n c off k inc W hn ho hk hi)
  have H3 := Lib.hid (fun W => good_any A' n' c' off' r' k' ld' W hn' ho' hr' hk' hi')
  have H4 := Lib.hid (fun W => rgood_any A' n' c' off' r' k' ld' W hn' ho' hr' hk' hi')
  clear hn ho hk hi hn' ho' hr' hk' hi'
  unfold vec mat
  generalize vecB n off k inc = x at *
  generalize matB n' off' r' k' ld' = y at *
  go_enter Try.func3, Try.ntmps3
  go_wp2_with fail
  refine (awake_any _).mono ?_
  rintro e w1 ⟨rfl, hb1⟩
  have HB1 := Lib.hid ((((Below.refl w.heap.size w).alloc (Nat.le_refl _) (.cells #[.slice A n c, .int .i64 off, .int .i64 k, .int .i64 inc] 24)).alloc (by simp) (.cells #[.slice A' n' c', .int .i64 off', .int .i64 r', .int .i64 k', .int .i64 ld'] 26)).trans (hb1.mono (by simp; omega)))
  have HC := Lib.hid (cells4v (((Blk.new w 24 #[.slice A n c, .int .i64 off, .int .i64 k, .int .i64 inc]).alloc (.cells #[.slice A' n' c', .int .i64 off', .int .i64 r', .int .i64 k', .int .i64 ld'] 26)).nxt hb1))
  have HD := Lib.hid (cells5 ((Blk.new_ (w.alloc (.cells #[.slice A n c, .int .i64 off, .int .i64 k, .int .i64 inc] 24)) 26 #[.slice A' n' c', .int .i64 off', .int .i64 r', .int .i64 k', .int .i64 ld'] (w.heap.size + 1) (by simp)).nxt hb1))
  obtain ⟨c0, c1, c2, c3⟩ := HC.out
  obtain ⟨d0, d1, d2, d3, d4⟩ := HD.out
  clear hb1
  go_wp2_with fail
  go_region_held3 (fun w' => w'.cell? ⟨w.heap.size, 0, none⟩ = some (.slice A n c) ∧ w'.cell? ⟨w.heap.size, 1, none⟩ = some (.int .i64 off) ∧ w'.cell? ⟨w.heap.size, 2, none⟩ = some (.int .i64 k) ∧ w'.cell? ⟨w.heap.size, 3, none⟩ = some (.int .i64 inc) ∧ w'.cell? ⟨w.heap.size + 1, 0, none⟩ = some (.slice A' n' c') ∧ w'.cell? ⟨w.heap.size + 1, 1, none⟩ = some (.int .i64 off') ∧ w'.cell? ⟨w.heap.size + 1, 2, none⟩ = some (.int .i64 r') ∧ w'.cell? ⟨w.heap.size + 1, 3, none⟩ = some (.int .i64 k') ∧ w'.cell? ⟨w.heap.size + 1, 4, none⟩ = some (.int .i64 ld') ∧ Below w.heap.size w w')
    (first | exact ⟨c0, c1, c2, c3, d0, d1, d2, d3, d4, HB1.out.drew⟩ | exact held9 ‹_ ∧ _ ∧ _ ∧ _ ∧ _ ∧ _ ∧ _ ∧ _ ∧ _ ∧ Below w.heap.size w _› hbA | exact held9 ‹_ ∧ _ ∧ _ ∧ _ ∧ _ ∧ _ ∧ _ ∧ _ ∧ _ ∧ Below w.heap.size w _› hbB | exact held9 ‹_ ∧ _ ∧ _ ∧ _ ∧ _ ∧ _ ∧ _ ∧ _ ∧ _ ∧ Below w.heap.size w _› hbC | exact held9 ‹_ ∧ _ ∧ _ ∧ _ ∧ _ ∧ _ ∧ _ ∧ _ ∧ _ ∧ Below w.heap.size w _› hbD | exact held9 ‹_ ∧ _ ∧ _ ∧ _ ∧ _ ∧ _ ∧ _ ∧ _ ∧ _ ∧ Below w.heap.size w _› hbE)
    (first
      | (go_at_call 8; refine (H1.out _).mono ?_; rintro e1 wA ⟨rfl, hbA⟩; skip)
      | (go_at_call 9; refine (H2.out _).mono ?_; rintro e1 wB ⟨rfl, hbB⟩; skip)
      | (go_at_call 10; refine (H3.out _).mono ?_; rintro e1 wC ⟨rfl, hbC⟩; skip)
      | (go_at_call 11; refine (H4.out _).mono ?_; rintro e1 wD ⟨rfl, hbD⟩; skip)
      | (go_at_call 7; refine (awake_any _).mono ?_; rintro e1 wE ⟨rfl, hbE⟩; skip))
  go_wp2_with fail
  go_ret
  exact ⟨rfl, (‹_ ∧ _ ∧ _ ∧ _ ∧ _ ∧ _ ∧ _ ∧ _ ∧ _ ∧ Below w.heap.size w _›).2.2.2.2.2.2.2.2.2⟩
end Go.Proofs.Ytajmdjeidpfgkaa
