/-
Meet, of one list. Conditions: as it says.
-/
import Derived.Test.YtcdhpoikppfjkaaZAVwL
set_option linter.unusedVariables false
namespace Go.Proofs.Ytcdhpoikppfjkaa
open Go.RowKit
attribute [local go_sem ↓] Go.wp_at_zero Go.wp_at_succ

set_option maxHeartbeats 2000000 in
/-- Matrices in one list. -/
theorem meet_same (b o n c : Nat) (off r k ld : Int) (n' c' : Nat) (off' r' k' ld' : Int) (w : World) (hn : n < 9223372036854775808) (ho : I64 off) (hr : I64 r) (hk : I64 k) (hi : I64 ld)
    (hn' : n' < 9223372036854775808) (ho' : I64 off') (hr' : I64 r') (hk' : I64 k') (hi' : I64 ld') (h : bothB n off r k ld n' off' r' k' ld' = true) (hn0 : 0 < n) (hn0' : 0 < n') :
    Calls Try.prog 30 #[mat (some ⟨b, o, none⟩) n c off r k ld, mat (some ⟨b, o, none⟩) n' c' off' r' k' ld'] w fun e w' => e = .returned (.bool (decide (off ≤ lastI off' r' k' ld') && decide (off' ≤ lastI off r k ld))) ∧ Below w.heap.size w w' := by
  have hb := h
  unfold bothB at hb
  simp only [Bool.and_eq_true, Bool.not_eq_true', Bool.or_eq_false_iff, beq_eq_false_iff_ne, ne_eq] at hb
  obtain ⟨⟨⟨g1, g2⟩, g3, g4⟩, g5, g6⟩ := hb
  have g1' := of_decide_eq_true g1
  have g2' := of_decide_eq_true g2
  have H1 := Lib.hid (fun W => good_any (some ⟨b, o, none⟩) n c off r k ld W hn ho hr hk hi)
  have H2 := Lib.hid (fun W => good_any (some ⟨b, o, none⟩) n' c' off' r' k' ld' W hn' ho' hr' hk' hi')
  have H3 := Lib.hid (fun W => none_any (some ⟨b, o, none⟩) n c off r k ld W)
  have H4 := Lib.hid (fun W => none_any (some ⟨b, o, none⟩) n' c' off' r' k' ld' W)
  have HL := Lib.hid (fun W (nn cc : Nat) (x1 x2 x3 x4 : Int) (hx : (nn = n ∧ cc = c ∧ x1 = off ∧ x2 = r ∧ x3 = k ∧ x4 = ld) ∨ (nn = n' ∧ cc = c' ∧ x1 = off' ∧ x2 = r' ∧ x3 = k' ∧ x4 = ld')) =>
    show Calls Try.prog 44 #[mat (some ⟨b, o, none⟩) nn cc x1 x2 x3 x4] W fun e w' => e = .returned (.int .i64 (lastI x1 x2 x3 x4)) ∧ Below W.heap.size W w' by
      rcases hx with ⟨rfl, rfl, rfl, rfl, rfl, rfl⟩ | ⟨rfl, rfl, rfl, rfl, rfl, rfl⟩
      · exact last_any (some ⟨b, o, none⟩) _ _ _ _ _ _ W hn g1 (by omega) (by omega) hr hk
      · exact last_any (some ⟨b, o, none⟩) _ _ _ _ _ _ W hn' g2 (by omega) (by omega) hr' hk')
  rw [show (r == 0 || k == 0) = false by simp [g3, g4]] at H3
  rw [show (r' == 0 || k' == 0) = false by simp [g5, g6]] at H4
  rw [g1] at H1
  rw [g2] at H2
  have n1 : (0 : Int) < (n : Int) := by omega
  have n2 : (0 : Int) < (n' : Int) := by omega
  clear hn ho hr hk hi hn' ho' hr' hk' hi' g1 g2 g3 g4 g5 g6 h g1' g2'
  unfold mat at *
  go_enter Try.func30, Try.ntmps30
  have HZ0 := Lib.hid ((Blk.new w 24 #[.slice (some ⟨b, o, none⟩) n c, .int .i64 off, .int .i64 r, .int .i64 k, .int .i64 ld]).alloc (.cells #[.slice (some ⟨b, o, none⟩) n' c', .int .i64 off', .int .i64 r', .int .i64 k', .int .i64 ld'] 24))
  have HZ1 := Lib.hid (Blk.new_ (w.alloc (.cells #[.slice (some ⟨b, o, none⟩) n c, .int .i64 off, .int .i64 r, .int .i64 k, .int .i64 ld] 24)) 24 #[.slice (some ⟨b, o, none⟩) n' c', .int .i64 off', .int .i64 r', .int .i64 k', .int .i64 ld'] (w.heap.size + 1) (by simp))
  have HB0 := Lib.hid (((Below.refl w.heap.size w).alloc (Nat.le_refl _) (.cells #[.slice (some ⟨b, o, none⟩) n c, .int .i64 off, .int .i64 r, .int .i64 k, .int .i64 ld] 24)).alloc (by simp) (.cells #[.slice (some ⟨b, o, none⟩) n' c', .int .i64 off', .int .i64 r', .int .i64 k', .int .i64 ld'] 24))
  go_wp2_with fail
  refine (H1.out _).mono ?_
  rintro e w1 ⟨rfl, hb1⟩
  have HZ2 := Lib.hid (HZ0.out.nxt hb1)
  have HZ3 := Lib.hid (HZ1.out.nxt hb1)
  have HB1 := Lib.hid (HB0.out.trans (hb1.mono HB0.out.size))
  obtain ⟨c0, c1, c2, c3, c4⟩ := cells5 HZ2.out
  obtain ⟨d0, d1, d2, d3, d4⟩ := cells5 HZ3.out
  clear hb1
  go_wp2_with fail
  refine (H2.out _).mono ?_
  rintro e w2 ⟨rfl, hb1⟩
  clear c0 c1 c2 c3 c4 d0 d1 d2 d3 d4
  have HZ4 := Lib.hid (HZ2.out.nxt hb1)
  have HZ5 := Lib.hid (HZ3.out.nxt hb1)
  have HB2 := Lib.hid (HB1.out.trans (hb1.mono HB1.out.size))
  obtain ⟨c0, c1, c2, c3, c4⟩ := cells5 HZ4.out
  obtain ⟨d0, d1, d2, d3, d4⟩ := cells5 HZ5.out
  clear hb1
  go_wp2_with fail
  refine (H3.out _).mono ?_
  rintro e w3 ⟨rfl, hb1⟩
  clear c0 c1 c2 c3 c4 d0 d1 d2 d3 d4
  have HZ6 := Lib.hid (HZ4.out.nxt hb1)
  have HZ7 := Lib.hid (HZ5.out.nxt hb1)
  have HB3 := Lib.hid (HB2.out.trans (hb1.mono HB2.out.size))
  obtain ⟨c0, c1, c2, c3, c4⟩ := cells5 HZ6.out
  obtain ⟨d0, d1, d2, d3, d4⟩ := cells5 HZ7.out
  clear hb1
  go_wp2_with fail
  refine (H4.out _).mono ?_
  rintro e w4 ⟨rfl, hb1⟩
  clear c0 c1 c2 c3 c4 d0 d1 d2 d3 d4
  have HZ8 := Lib.hid (HZ6.out.nxt hb1)
  have HZ9 := Lib.hid (HZ7.out.nxt hb1)
  have HB4 := Lib.hid (HB3.out.trans (hb1.mono HB3.out.size))
  obtain ⟨c0, c1, c2, c3, c4⟩ := cells5 HZ8.out
  obtain ⟨d0, d1, d2, d3, d4⟩ := cells5 HZ9.out
  clear hb1
  go_wp2_with fail
  cases hd1 : decide (off ≤ lastI off' r' k' ld')
  · have HB5 := Lib.hid HB4.out.drew
    have p0 : w4.drew.cell? ⟨w.heap.size, 0, none⟩ = _ := c0
    have q0 : w4.drew.cell? ⟨w.heap.size + 1, 0, none⟩ = _ := d0
    have p1 : w4.drew.cell? ⟨w.heap.size, 1, none⟩ = _ := c1
    have q1 : w4.drew.cell? ⟨w.heap.size + 1, 1, none⟩ = _ := d1
    have p2 : w4.drew.cell? ⟨w.heap.size, 2, none⟩ = _ := c2
    have q2 : w4.drew.cell? ⟨w.heap.size + 1, 2, none⟩ = _ := d2
    have p3 : w4.drew.cell? ⟨w.heap.size, 3, none⟩ = _ := c3
    have q3 : w4.drew.cell? ⟨w.heap.size + 1, 3, none⟩ = _ := d3
    have p4 : w4.drew.cell? ⟨w.heap.size, 4, none⟩ = _ := c4
    have q4 : w4.drew.cell? ⟨w.heap.size + 1, 4, none⟩ = _ := d4
    first
    | go_region_with ((go_at_call 44; refine (HL.out _ _ _ _ _ _ _ (by first | exact .inl ⟨rfl, rfl, rfl, rfl, rfl, rfl⟩ | exact .inr ⟨rfl, rfl, rfl, rfl, rfl, rfl⟩)).mono ?_; rintro e1 wA ⟨rfl, hbA⟩; have p0' := cell_below p0 hbA; have q0' := cell_below q0 hbA; have p1' := cell_below p1 hbA; have q1' := cell_below q1 hbA; have p2' := cell_below p2 hbA; have q2' := cell_below q2 hbA; have p3' := cell_below p3 hbA; have q3' := cell_below q3 hbA; have p4' := cell_below p4 hbA; have q4' := cell_below q4 hbA; skip))
    | fail "no way"
    all_goals
      have HB6 := Lib.hid (HB5.out.trans (hbA.mono HB5.out.size))
      clear hbA
      go_wp2_with fail
      go_ret
      exact ⟨ret_bool (by simp [*]), HB6.out⟩
  cases hd2 : decide (off' ≤ lastI off r k ld)
  · go_region_held3 (fun w' => w'.cell? ⟨w.heap.size, 0, none⟩ = some (.slice (some ⟨b, o, none⟩) n c) ∧ w'.cell? ⟨w.heap.size, 1, none⟩ = some (.int .i64 off) ∧ w'.cell? ⟨w.heap.size, 2, none⟩ = some (.int .i64 r) ∧ w'.cell? ⟨w.heap.size, 3, none⟩ = some (.int .i64 k) ∧ w'.cell? ⟨w.heap.size, 4, none⟩ = some (.int .i64 ld) ∧ w'.cell? ⟨w.heap.size + 1, 0, none⟩ = some (.slice (some ⟨b, o, none⟩) n' c') ∧ w'.cell? ⟨w.heap.size + 1, 1, none⟩ = some (.int .i64 off') ∧ w'.cell? ⟨w.heap.size + 1, 2, none⟩ = some (.int .i64 r') ∧ w'.cell? ⟨w.heap.size + 1, 3, none⟩ = some (.int .i64 k') ∧ w'.cell? ⟨w.heap.size + 1, 4, none⟩ = some (.int .i64 ld') ∧ Below w.heap.size w w')
      (first | exact ⟨c0, c1, c2, c3, c4, d0, d1, d2, d3, d4, HB4.out.drew⟩ | exact held10 ‹_ ∧ _ ∧ _ ∧ _ ∧ _ ∧ _ ∧ _ ∧ _ ∧ _ ∧ _ ∧ Below w.heap.size w _› hbA)
      ((go_at_call 44; refine (HL.out _ _ _ _ _ _ _ (by first | exact .inl ⟨rfl, rfl, rfl, rfl, rfl, rfl⟩ | exact .inr ⟨rfl, rfl, rfl, rfl, rfl, rfl⟩)).mono ?_; rintro e1 wA ⟨rfl, hbA⟩; skip))
    all_goals
      go_wp2_with fail
      go_ret
      exact ⟨ret_bool (by simp [*]), (‹_ ∧ _ ∧ _ ∧ _ ∧ _ ∧ _ ∧ _ ∧ _ ∧ _ ∧ _ ∧ Below w.heap.size w _›).2.2.2.2.2.2.2.2.2.2⟩
  · go_region_held3 (fun w' => w'.cell? ⟨w.heap.size, 0, none⟩ = some (.slice (some ⟨b, o, none⟩) n c) ∧ w'.cell? ⟨w.heap.size, 1, none⟩ = some (.int .i64 off) ∧ w'.cell? ⟨w.heap.size, 2, none⟩ = some (.int .i64 r) ∧ w'.cell? ⟨w.heap.size, 3, none⟩ = some (.int .i64 k) ∧ w'.cell? ⟨w.heap.size, 4, none⟩ = some (.int .i64 ld) ∧ w'.cell? ⟨w.heap.size + 1, 0, none⟩ = some (.slice (some ⟨b, o, none⟩) n' c') ∧ w'.cell? ⟨w.heap.size + 1, 1, none⟩ = some (.int .i64 off') ∧ w'.cell? ⟨w.heap.size + 1, 2, none⟩ = some (.int .i64 r') ∧ w'.cell? ⟨w.heap.size + 1, 3, none⟩ = some (.int .i64 k') ∧ w'.cell? ⟨w.heap.size + 1, 4, none⟩ = some (.int .i64 ld') ∧ Below w.heap.size w w')
      (first | exact ⟨c0, c1, c2, c3, c4, d0, d1, d2, d3, d4, HB4.out.drew⟩ | exact held10 ‹_ ∧ _ ∧ _ ∧ _ ∧ _ ∧ _ ∧ _ ∧ _ ∧ _ ∧ _ ∧ Below w.heap.size w _› hbA)
      ((go_at_call 44; refine (HL.out _ _ _ _ _ _ _ (by first | exact .inl ⟨rfl, rfl, rfl, rfl, rfl, rfl⟩ | exact .inr ⟨rfl, rfl, rfl, rfl, rfl, rfl⟩)).mono ?_; rintro e1 wA ⟨rfl, hbA⟩; skip))
    all_goals
      go_wp2_with fail
      go_ret
      exact ⟨ret_bool (by simp [*]), (‹_ ∧ _ ∧ _ ∧ _ ∧ _ ∧ _ ∧ _ ∧ _ ∧ _ ∧ _ ∧ Below w.heap.size w _›).2.2.2.2.2.2.2.2.2.2⟩
end Go.Proofs.Ytcdhpoikppfjkaa
