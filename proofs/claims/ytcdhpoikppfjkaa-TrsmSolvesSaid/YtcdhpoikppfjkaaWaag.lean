/-
Meet, of one list. Conditions: as it says.
-/
import Derived.Test.YtcdhpoikppfjkaaWaaf
import Derived.Test.YtcdhpoikppfjkaaWaad
set_option linter.unusedVariables false
namespace Go.Proofs.Ytcdhpoikppfjkaa
open Go.RowKit
attribute [local go_sem ↓] Go.wp_at_zero Go.wp_at_succ

set_option maxHeartbeats 2000000 in
/-- Matrices in one list. -/
theorem meet_same (b o n c : Nat) (off r k ld : Int) (n' c' : Nat) (off' r' k' ld' : Int) (w : World) (hn : n < 9223372036854775808) (ho : I64 off) (hr : I64 r) (hk : I64 k) (hi : I64 ld)
    (hn' : n' < 9223372036854775808) (ho' : I64 off') (hr' : I64 r') (hk' : I64 k') (hi' : I64 ld') (h : bothB n off r k ld n' off' r' k' ld' = true) (hn0 : 0 < n) (hn0' : 0 < n') :
    Calls Try.prog 30 #[mat (some ⟨b, o, none⟩) n c off r k ld, mat (some ⟨b, o, none⟩) n' c' off' r' k' ld'] w fun e w' => e = .returned (.bool (decide (off ≤ lastI off' r' k' ld') && decide (off' ≤ lastI off r k ld))) ∧ Below w.heap.size w w' := by
  have hb := h
  unfold bothB at hb
  simp only [Bool.and_eq_true, Bool.not_eq_true', Bool.or_eq_false_iff, beq_eq_false_iff_ne, ne_eq] at hb
  obtain ⟨⟨⟨g1, g2⟩, g3, g4⟩, g5, g6⟩ := hb
  have g1' := of_decide_eq_true g1
  have g2' := of_decide_eq_true g2
  have H1 := Lib.hid (fun W => good_any (some ⟨b, o, none⟩) n c off r k ld W hn ho hr hk hi)
  have H2 := Lib.hid (fun W => good_any (some ⟨b, o, none⟩) n' c' off' r' k' ld' W hn' ho' hr' hk' hi')
  have H3 := Lib.hid (fun W => none_any (some ⟨b, o, none⟩) n c off r k ld W)
  have H4 := Lib.hid (fun W => none_any (some ⟨b, o, none⟩) n' c' off' r' k' ld' W)
  have HL := Lib.hid (fun W (nn cc : Nat) (x1 x2 x3 x4 : Int) (hx : (nn = n ∧ cc = c ∧ x1 = off ∧ x2 = r ∧ x3 = k ∧ x4 = ld) ∨ (nn = n' ∧ cc = c' ∧ x1 = off' ∧ x2 = r' ∧ x3 = k' ∧ x4 = ld')) =>
    show Calls Try.prog 44 #[mat (some ⟨b, o, none⟩) nn cc x1 x2 x3 x4] W fun e w' => e = .returned (.int .i64 (lastI x1 x2 x3 x4)) ∧ Below W.heap.size W w' by
      rcases hx with ⟨rfl, rfl, rfl, rfl, rfl, rfl⟩ | ⟨rfl, rfl, rfl, rfl, rfl, rfl⟩
      · exact last_any (some ⟨b, o, none⟩) _ _ _ _ _ _ W hn g1 (by omega) (by omega) hr hk
      · exact last_any (some ⟨b, o, none⟩) _ _ _ _ _ _ W hn' g2 (by omega) (by omega) hr' hk')
  rw [show (r == 0 || k == 0) = false by simp [g3, g4]] at H3
  rw [show (r' == 0 || k' == 0) = false by simp [g5, g6]] at H4
  rw [g1] at H1
  rw [g2] at H2
  have n1 : (0 : Int) < (n : Int) := by omega
  have n2 : (0 : Int) < (n' : Int) := by omega
  clear hn ho hr hk hi hn' ho' hr' hk' hi' g1 g2 g3 g4 g5 g6 h g1' g2'
  unfold mat at *
  go_enter Try.func30, Try.ntmps30
  have HZ0 := Lib.hid ((Blk.new w 24 #[.slice (some ⟨b, o, none⟩) n c, .int .i64 off, .int .i64 r, .int .i64 k, .int .i64 ld]).alloc (.cells #[.slice (some ⟨b, o, none⟩) n' c', .int .i64 off', .int .i64 r', .int .i64 k', .int .i64 ld'] 24))
  have HZ1 := Lib.hid (Blk.new_ (w.alloc (.cells #[.slice (some ⟨b, o, none⟩) n c, .int .i64 off, .int .i64 r, .int .i64 k, .int .i64 ld] 24)) 24 #[.slice (some ⟨b, o, none⟩) n' c', .int .i64 off', .int .i64 r', .int .i64 k', .int .i64 ld'] (w.heap.size + 1) (by simp))
  have HB0 := Lib.hid (((Below.refl w.heap.size w).alloc (Nat.le_refl _) (.cells #[.slice (some ⟨b, o, none⟩) n c, .int .i64 off, .int .i64 r, .int .i64 k, .int .i64 ld] 24)).alloc (by simp) (.cells #[.slice (some ⟨b, o, none⟩) n' c', .int .i64 off', .int .i64 r', .int .i64 k', .int .i64 ld'] 24))
  go_wp2_with fail
  refine (H1.out _).mono ?_
  rintro e w1 ⟨rfl, hb1⟩
  have HZ2 := Lib.hid (HZ0.out.nxt hb1)
  have HZ3 := Lib.hid (HZ1.out.nxt hb1)
  have HB1 := Lib.hid (HB0.out.trans (hb1.mono HB0.out.size))
  obtain ⟨c0, c1, c2, c3, c4⟩ := cells5 HZ2.out
  obtain ⟨d0, d1, d2, d3, d4⟩ := cells5 HZ3.out
  clear hb1
  go_wp2_with fail
  refine (H2.out _).mono ?_
  rintro e w2 ⟨rfl, hb1⟩
  clear c0 c1 c2 c3 c4 d0 d1 d2 d3 d4
  have HZ4 := Lib.hid (HZ2.out.nxt hb1)
  have HZ5 := Lib.hid (HZ3.out.nxt hb1)
  have HB2 := Lib.hid (HB1.out.trans (hb1.mono HB1.out.size))
  obtain ⟨c0, c1, c2, c3, c4⟩ := cells5 HZ4.out
  obtain ⟨d0, d1, d2, d3, d4⟩ := cells5 HZ5.out
  clear hb1
  go_wp2_with fail
  refine (H3.out _).mono ?_
  rintro e w3 ⟨rfl, hb1⟩
  clear c0 c1 c2 c3 c4 d0 d1 d2 d3 d4
  have HZ6 := Lib.hid (HZ4.out.nxt hb1)
  have HZ7 := Lib.hid (HZ5.out.nxt hb1)
  have HB3 := Lib.hid (HB2.out.trans (hb1.mono HB2.out.size))
  obtain ⟨c0, c1, c2, c3, c4⟩ := cells5 HZ6.out
  obtain ⟨d0, d1, d2, d3, d4⟩ := cells5 HZ7.out
  clear hb1
  go_wp2_with fail
  refine (H4.out _).mono ?_
  rintro e w4 ⟨rfl, hb1⟩
  clear c0 c1 c2 c3 c4 d0 d1 d2 d3 d4
  have HZ8 := Lib.hid (HZ6.out.nxt hb1)
  have HZ9 := Lib.hid (HZ7.out.nxt hb1)
  have HB4 := Lib.hid (HB3.out.trans (hb1.mono HB3.out.size))
  obtain ⟨c0, c1, c2, c3, c4⟩ := cells5 HZ8.out
  obtain ⟨d0, d1, d2, d3, d4⟩ := cells5 HZ9.out
  clear hb1
  go_wp2_with fail
  cases hd1 : decide (off ≤ lastI off' r' k' ld')
  · have HB5 := Lib.hid HB4.out.drew
    have p0 : w4.drew.cell? ⟨w.heap.size, 0, none⟩ = _ := c0
    have q0 : w4.drew.cell? ⟨w.heap.size + 1, 0, none⟩ = _ := d0
    have p1 : w4.drew.cell? ⟨w.heap.size, 1, none⟩ = _ := c1
    have q1 : w4.drew.cell? ⟨w.heap.size + 1, 1, none⟩ = _ := d1
    have p2 : w4.drew.cell? ⟨w.heap.size, 2, none⟩ = _ := c2
    have q2 : w4.drew.cell? ⟨w.heap.size + 1, 2, none⟩ = _ := d2
    have p3 : w4.drew.cell? ⟨w.heap.size, 3, none⟩ = _ := c3
    have q3 : w4.drew.cell? ⟨w.heap.size + 1, 3, none⟩ = _ := d3
    have p4 : w4.drew.cell? ⟨w.heap.size, 4, none⟩ = _ := c4
    have q4 : w4.drew.cell? ⟨w.heap.size + 1, 4, none⟩ = _ := d4
    first
    | go_region_with ((go_at_call 44; refine (HL.out _ _ _ _ _ _ _ (by first | exact .inl ⟨rfl, rfl, rfl, rfl, rfl, rfl⟩ | exact .inr ⟨rfl, rfl, rfl, rfl, rfl, rfl⟩)).mono ?_; rintro e1 wA ⟨rfl, hbA⟩; have p0' := cell_below p0 hbA; have q0' := cell_below q0 hbA; have p1' := cell_below p1 hbA; have q1' := cell_below q1 hbA; have p2' := cell_below p2 hbA; have q2' := cell_below q2 hbA; have p3' := cell_below p3 hbA; have q3' := cell_below q3 hbA; have p4' := cell_below p4 hbA; have q4' := cell_below q4 hbA; skip))
    | fail "no way"
    all_goals
      have HB6 := Lib.hid (HB5.out.trans (hbA.mono HB5.out.size))
      clear hbA
      go_wp2_with fail
      go_ret
      exact ⟨ret_bool (by simp [*]), HB6.out⟩
  cases hd2 : decide (off' ≤ lastI off r k ld)
  · go_region_held3 (fun w' => w'.cell? ⟨w.heap.size, 0, none⟩ = some (.slice (some ⟨b, o, none⟩) n c) ∧ w'.cell? ⟨w.heap.size, 1, none⟩ = some (.int .i64 off) ∧ w'.cell? ⟨w.heap.size, 2, none⟩ = some (.int .i64 r) ∧ w'.cell? ⟨w.heap.size, 3, none⟩ = some (.int .i64 k) ∧ w'.cell? ⟨w.heap.size, 4, none⟩ = some (.int .i64 ld) ∧ w'.cell? ⟨w.heap.size + 1, 0, none⟩ = some (.slice (some ⟨b, o, none⟩) n' c') ∧ w'.cell? ⟨w.heap.size + 1, 1, none⟩ = some (.int .i64 off') ∧ w'.cell? ⟨w.heap.size + 1, 2, none⟩ = some (.int .i64 r') ∧ w'.cell? ⟨w.heap.size + 1, 3, none⟩ = some (.int .i64 k') ∧ w'.cell? ⟨w.heap.size + 1, 4, none⟩ = some (.int .i64 ld') ∧ Below w.heap.size w w')
      (first | exact ⟨c0, c1, c2, c3, c4, d0, d1, d2, d3, d4, HB4.out.drew⟩ | exact held10 ‹_ ∧ _ ∧ _ ∧ _ ∧ _ ∧ _ ∧ _ ∧ _ ∧ _ ∧ _ ∧ Below w.heap.size w _› hbA)
      ((go_at_call 44; refine (HL.out _ _ _ _ _ _ _ (by first | exact .inl ⟨rfl, rfl, rfl, rfl, rfl, rfl⟩ | exact .inr ⟨rfl, rfl, rfl, rfl, rfl, rfl⟩)).mono ?_; rintro e1 wA ⟨rfl, hbA⟩; skip))
    all_goals
      go_wp2_with fail
      go_ret
      exact ⟨ret_bool (by simp [*]), (‹_ ∧ _ ∧ _ ∧ _ ∧ _ ∧ _ ∧ _ ∧ _ ∧ _ ∧ _ ∧ Below w.heap.size w _›).2.2.2.2.2.2.2.2.2.2⟩
  · go_region_held3 (fun w' => w'.cell? ⟨w.heap.size, 0, none⟩ = some (.slice (some ⟨b, o, none⟩) n c) ∧ w'.cell? ⟨w.heap.size, 1, none⟩ = some (.int .i64 off) ∧ w'.cell? ⟨w.heap.size, 2, none⟩ = some (.int .i64 r) ∧ w'.cell? ⟨w.heap.size, 3, none⟩ = some (.int .i64 k) ∧ w'.cell? ⟨w.heap.size, 4, none⟩ = some (.int .i64 ld) ∧ w'.cell? ⟨w.heap.size + 1, 0, none⟩ = some (.slice (some ⟨b, o, none⟩) n' c') ∧ w'.cell? ⟨w.heap.size + 1, 1, none⟩ = some (.int .i64 off') ∧ w'.cell? ⟨w.heap.size + 1, 2, none⟩ = some (.int .i64 r') ∧ w'.cell? ⟨w.heap.size + 1, 3, none⟩ = some (.int .i64 k') ∧ w'.cell? ⟨w.heap.size + 1, 4, none⟩ = some (.int .i64 ld') ∧ Below w.heap.size w w')
      (first | exact ⟨c0, c1, c2, c3, c4, d0, d1, d2, d3, d4, HB4.out.drew⟩ | exact held10 ‹_ ∧ _ ∧ _ ∧ _ ∧ _ ∧ _ ∧ _ ∧ _ ∧ _ ∧ _ ∧ Below w.heap.size w _› hbA)
      ((go_at_call 44; refine (HL.out _ _ _ _ _ _ _ (by first | exact .inl ⟨rfl, rfl, rfl, rfl, rfl, rfl⟩ | exact .inr ⟨rfl, rfl, rfl, rfl, rfl, rfl⟩)).mono ?_; rintro e1 wA ⟨rfl, hbA⟩; skip))
    all_goals
      go_wp2_with fail
      go_ret
      exact ⟨ret_bool (by simp [*]), (‹_ ∧ _ ∧ _ ∧ _ ∧ _ ∧ _ ∧ _ ∧ _ ∧ _ ∧ _ ∧ Below w.heap.size w _›).2.2.2.2.2.2.2.2.2.2⟩
end Go.Proofs.Ytcdhpoikppfjkaa
/-
ViewMeets. Conditions: the first cell of the list isn't shared with a string.
-/
set_option linter.unusedVariables false
namespace Go.Proofs.Ytcdhpoikppfjkaa
open Go.RowKit
attribute [local go_sem ↓] Go.wp_at_zero Go.wp_at_succ

theorem run_sameAddr_far {P : Program} {w : World} {b o g : Nat} {t : TypeId} {cs : Array Value} {v : Value} (hne : b ≠ g) (hc : w.cell? ⟨b, o, none⟩ = some v) (hf : w.frozen? ⟨b, o, none⟩ = false) (hB : Blk w g t cs) (hs : 0 < cs.size) :
    (sameAddr ⟨b, o, none⟩ ⟨g, 0, none⟩).run P w = .ok false w := by
  obtain ⟨ca, ta, fr, ha, m, hm⟩ : ∃ ca ta fr, w.heap[b]? = some (.cells ca ta fr) ∧ ∃ m, ca.size = m + 1 := by
    unfold World.cell? at hc
    simp only at hc
    split at hc
    · rename_i ca ta fr h
      refine ⟨ca, ta, fr, h, ca.size - 1, ?_⟩
      have h1 := (Array.getElem?_eq_some_iff.1 hc).1
      omega
    · cases hc
  have hg := hB
  unfold Blk at hg
  have hs0 : cs.size ≠ 0 := by omega
  obtain ⟨lo, hi⟩ := fr
  have hf' : (decide (lo ≤ o) && decide (o < hi)) = false := by
    simpa [World.frozen?, ha] using hf
  have hg2 : g ≠ b := fun e => hne e.symm
  cases h1 : decide (lo ≤ m + 1) && decide (m + 1 < hi)
  all_goals simp [sameAddr, hne, World.frozen?, ha, hg, hf', noView, viewAt, World.shape?, mayBeOne, stringish, hs0, h1, hm]
theorem run_eql_far {W : World} {b o g : Nat} {t : TypeId} {cs : Array Value} {v : Value} (hne : b ≠ g) (hc : W.cell? ⟨b, o, none⟩ = some v) (hf : W.frozen? ⟨b, o, none⟩ = false) (hB : Blk W g t cs) (hs : 0 < cs.size) :
    (binOp .eql 75 (.pointer (some ⟨b, o, none⟩)) (.pointer (some ⟨g, 0, none⟩))).run Try.prog W = .ok (.bool false) W := by
  have hz : (Try.prog.info? 43).map (fun i => i.size) = some 1 := by kernel_rfl
  obtain ⟨j, hj, hsz⟩ := Option.map_eq_some_iff.1 hz
  have h0 := run_sameAddr_far (P := Try.prog) hne hc hf hB hs
  have h : ∀ d : Nat, (Op.equalIn (d + 1) 75 (.pointer (some ⟨b, o, none⟩)) (.pointer (some ⟨g, 0, none⟩))).run Try.prog W = .ok false W := fun d => by
    simp [Op.equalIn, run_underlying Try.underlying75, sizeOf, typeInfo, hj, hsz, h0]
  simp only [binOp]
  simp [Op.equal, Op.maxDepth, h 9999]

theorem both_pos {n n' : Nat} {off r k ld off' r' k' ld' : Int} (h : bothB n off r k ld n' off' r' k' ld' = true) : 0 < n := by
  unfold bothB at h
  simp only [Bool.and_eq_true, Bool.not_eq_true', Bool.or_eq_false_iff, beq_eq_false_iff_ne, ne_eq] at h
  have g1 := of_decide_eq_true h.1.1.1
  have h0 : 0 ≤ (k - 1) * ld := Int.mul_nonneg (by omega) (by omega)
  omega

end Go.Proofs.Ytcdhpoikppfjkaa
/-
What lies in several blocks, and which blocks have changed. Conditions: none.
-/
set_option linter.unusedVariables false
namespace Go.Proofs.Ytcdhpoikppfjkaa
open Go.RowKit

/-- Of the blocks that were there those of G alone may have changed. -/
structure Chg (G : List Nat) (w w' : World) : Prop where
  os : w'.os = w.os
  tape : w'.tape = w.tape
  output : w'.output = w.output
  size : w.heap.size ≤ w'.heap.size
  block : ∀ k, k < w.heap.size → k ∉ G → w'.heap[k]? = w.heap[k]?
section
variable {G : List Nat} {w w' w'' : World} {b : Nat} {t : TypeId} {cs : Array Value}
theorem Chg.refl (G : List Nat) (w : World) : Chg G w w := ⟨rfl, rfl, rfl, Nat.le_refl _, fun _ _ _ => rfl⟩
theorem Chg.trans (h : Chg G w w') (k : Chg G w' w'') : Chg G w w'' :=
  ⟨k.os.trans h.os, k.tape.trans h.tape, k.output.trans h.output, Nat.le_trans h.size k.size, fun i hi hn => (k.block i (Nat.lt_of_lt_of_le hi h.size) hn).trans (h.block i hi hn)⟩
theorem Chg.of_below (h : Below w.heap.size w w') : Chg G w w' := ⟨h.os, h.tape, h.output, h.size, fun k hk _ => h.block k hk⟩
theorem Chg.nxt (h : Chg G w w') (hb : Below w'.heap.size w' w'') : Chg G w w'' := h.trans (.of_below hb)
theorem Chg.mono {G' : List Nat} (h : Chg G w w') (hg : ∀ g ∈ G, g ∈ G') : Chg G' w w' := ⟨h.os, h.tape, h.output, h.size, fun k hk hn => h.block k hk (fun e => hn (hg _ e))⟩
theorem Chg.drew (h : Chg G w w') : Chg G w w'.drew := ⟨h.os, h.tape, h.output, h.size, h.block⟩
theorem Chg.drewN (h : Chg G w w') (n : Nat) : Chg G w (w'.drewN n) := ⟨h.os, h.tape, h.output, h.size, h.block⟩
theorem Chg.alloc (h : Chg G w w') (o : Obj) : Chg G w (w'.alloc o) := h.nxt ((Below.refl _ _).alloc (Nat.le_refl _) o)
theorem Chg.set_in (h : Chg G w w') {p : Addr} (hp : p.block ∈ G) (u : Value) : Chg G w (w'.setCell p u) :=
  ⟨h.os, h.tape, h.output, by simpa [World.setCell] using h.size, fun k hk hn => (Below.heap_setCell w' _ u k (fun e => hn (by rw [e]; exact hp))).trans (h.block k hk hn)⟩
theorem Chg.below {B : Nat} {w0 : World} (h : Chg G w w') (hb : Below B w0 w) (hB : B ≤ w.heap.size) (hG : ∀ g ∈ G, B ≤ g) : Below B w0 w' :=
  hb.trans ⟨h.os, h.tape, h.output, h.size, fun k hk => h.block k (by omega) (fun e => by have := hG k e; omega)⟩
theorem Chg.blk (h : Chg G w w') (hb : b ∉ G) (hB : Blk w b t cs) : Blk w' b t cs := (h.block b hB.lt hb).trans hB
theorem Chg.own {l : List Nat} (h : Chg G w w') (hb : b ∉ G) (hB : Own w b l) : Own w' b l := by
  obtain ⟨cs, hB, ht⟩ := hB; exact ⟨cs, h.blk hb hB, ht⟩
theorem Chg.cell {o : Nat} {v : Value} (h : Chg G w w') (hb : b ∉ G) (hc : w.cell? ⟨b, o, none⟩ = some v) : w'.cell? ⟨b, o, none⟩ = some v :=
  (World.cell?_of_block (a := ⟨b, o, none⟩) (h.block b (block_lt hc) hb)).trans hc
theorem Chg.row {A : Option Addr} {xs : List Value} (h : Chg G w w') (hA : ∀ b o, A = some ⟨b, o, none⟩ → b ∉ G) (hr : Row w A xs) : Row w' A xs := by
  rcases hr with rfl | ⟨b, o, e, hc⟩
  · exact .inl rfl
  · exact .inr ⟨b, o, e, fun i v hi => h.cell (hA b o e) (hc i v hi)⟩
/-- The blocks of G are the call's own, or the caller's, and hold these lists. -/
def Has (w : World) (G : List Nat) (s : Nat → List Nat) : Prop := ∀ g ∈ G, Own w g (s g)
variable {s : Nat → List Nat}
theorem Has.own {g : Nat} (h : Has w G s) (hg : g ∈ G) : Own w g (s g) := h g hg
theorem Has.nxt (h : Has w G s) (hb : Below w.heap.size w w') : Has w' G s := fun g hg => (h g hg).nxt hb
theorem Has.chg {G' : List Nat} (h : Has w G s) (hc : Chg G' w w') (hd : ∀ g ∈ G, g ∉ G') : Has w' G s := fun g hg => hc.own (hd g hg) (h g hg)
theorem Has.lt {g : Nat} (h : Has w G s) (hg : g ∈ G) : g < w.heap.size := (h g hg).lt
theorem Has.set_ {g i : Nat} (h : Has w G s) (hg : g ∈ G) (v : Nat) (hi : i < (s g).length) : Has (w.setCell ⟨g, i, none⟩ (.float .f64 v)) G (upd s g ((s g).set i v)) := by
  intro k hk
  by_cases e : k = g
  · subst e
    rw [upd_self]
    exact (h k hk).set_ i v hi
  · rw [upd_ne e]
    exact (h k hk).other e _
theorem Has.other (h : Has w G s) {p : Addr} (hp : p.block ∉ G) (u : Value) : Has (w.setCell p u) G s := fun g hg => (h g hg).other (fun e => hp (by rw [← e]; exact hg)) u
theorem Has.drew (h : Has w G s) : Has w.drew G s := fun g hg => (h g hg).drew
theorem Has.alloc (h : Has w G s) (o : Obj) : Has (w.alloc o) G s := h.nxt ((Below.refl _ _).alloc (Nat.le_refl _) o)
theorem Has.mono {G' : List Nat} (h : Has w G s) (hg : ∀ g ∈ G', g ∈ G) : Has w G' s := fun g k => h g (hg g k)
theorem Has.get {g i : Nat} (h : Has w G s) (hg : g ∈ G) (hi : i < (s g).length) : w.cell? ⟨g, i, none⟩ = some (.float .f64 ((s g).getD i 0)) := by
  rw [(h g hg).get i hi, getD_of_lt hi]
theorem Has.row {g : Nat} (h : Has w G s) (hg : g ∈ G) : Row w (some ⟨g, 0, none⟩) (f64s (s g)) := (h g hg).row
theorem has_one {g : Nat} {l : List Nat} (h : Own w g l) : Has w [g] (fun _ => l) := fun k hk => by
  rw [List.mem_singleton] at hk; subst hk; exact h
theorem own_blk {g : Nat} {l : List Nat} (h : Blk w g 43 (f64s l).toArray) : Own w g l := ⟨_, h, List.take_of_length_le (by simp [f64s])⟩
theorem cells4w {v0 v1 v2 v3 : Value} (h : Blk w b t #[v0, v1, v2, v3]) : w.cell? ⟨b, 0, none⟩ = some v0 ∧ w.cell? ⟨b, 1, none⟩ = some v1 ∧ w.cell? ⟨b, 2, none⟩ = some v2 ∧ w.cell? ⟨b, 3, none⟩ = some v3 := ⟨h.cell 0, h.cell 1, h.cell 2, h.cell 3⟩
theorem frozen4w {v0 v1 v2 v3 : Value} (h : Blk w b t #[v0, v1, v2, v3]) : w.frozen? ⟨b, 0, none⟩ = false ∧ w.frozen? ⟨b, 1, none⟩ = false ∧ w.frozen? ⟨b, 2, none⟩ = false ∧ w.frozen? ⟨b, 3, none⟩ = false := ⟨h.frozen 0, h.frozen 1, h.frozen 2, h.frozen 3⟩
end
end Go.Proofs.Ytcdhpoikppfjkaa
