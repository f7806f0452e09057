/-
Set: a number of a matrix. Conditions: as each says.
-/
import Derived.Test.YtcdhpoikppfjkaaZYVwH
import Derived.LaidEqlPtr
set_option linter.unusedVariables false
namespace Go.Proofs.Ytcdhpoikppfjkaa
open Go.RowKit
attribute [local go_sem ↓] Go.wp_at_zero Go.wp_at_succ

theorem Only.of_below {g : Nat} {w w' : World} (h : Below w.heap.size w w') : Only g w w' := ⟨h.os, h.tape, h.output, h.size, fun k hk _ => h.block k hk⟩
theorem within_any (i n : Int) (w : World) : Calls Try.prog 65 #[.int .i64 i, .int .i64 n] w fun e w' => e = .returned (.bool (decide (0 ≤ i) && decide (i < n))) ∧ w = w' := by
  go_enter Try.func65, Try.ntmps65
  go_wp2
  all_goals
    go_ret
    refine ⟨ret_bool ?_, rfl⟩
    rw [Bool.eq_iff_iff]
    simp_all <;> omega

/-- Is there a row i and a column j? -/
def thereB (n : Nat) (off r k ld i j : Int) : Bool := matB n off r k ld && (decide (0 ≤ i) && decide (i < r)) && (decide (0 ≤ j) && decide (j < k))

theorem holds_any (A : Option Addr) (n c : Nat) (off r k ld i j : Int) (w : World) (hn : n < 9223372036854775808) (ho : I64 off) (hr : I64 r) (hk : I64 k) (hi : I64 ld) :
    Calls Try.prog 59 #[mat A n c off r k ld, .int .i64 i, .int .i64 j] w fun e w' => e = .returned (.bool (thereB n off r k ld i j)) ∧ Below w.heap.size w w' := by
  have H1 := Lib.hid (fun W => good_any A n c off r k ld W hn ho hr hk hi)
  clear hn ho hr hk hi
  unfold mat thereB
  generalize matB n off r k ld = x at *
  obtain ⟨y, hy⟩ : ∃ y, (decide (0 ≤ i) && decide (i < r)) = y := ⟨_, rfl⟩
  obtain ⟨z, hz⟩ : ∃ z, (decide (0 ≤ j) && decide (j < k)) = z := ⟨_, rfl⟩
  have H2 := Lib.hid (fun W => within_any i r W)
  have H3 := Lib.hid (fun W => within_any j k W)
  rw [hy] at H2
  rw [hz] at H3
  rw [hy, hz]
  clear hy hz
  go_enter Try.func59, Try.ntmps59
  go_wp2_with fail
  refine (H1.out _).mono ?_
  rintro e w1 ⟨rfl, hb⟩
  obtain ⟨c0, c1, c2, c3, c4⟩ := cells5 ((Blk.new w 24 #[.slice A n c, .int .i64 off, .int .i64 r, .int .i64 k, .int .i64 ld]).nxt hb)
  have HB := Lib.hid (((Below.refl w.heap.size w).alloc (Nat.le_refl _) (.cells #[.slice A n c, .int .i64 off, .int .i64 r, .int .i64 k, .int .i64 ld] 24)).trans (hb.mono (by simp)))
  clear hb
  cases x
  · go_wp2_with fail
    go_ret
    exact ⟨rfl, HB.out⟩
  · go_wp2_with fail
    refine (H2.out _).mono ?_
    rintro e w' ⟨rfl, rfl⟩
    cases y
    · go_wp2_with fail
      go_ret
      exact ⟨rfl, HB.out⟩
    · go_wp2_with fail
      refine (H3.out _).mono ?_
      rintro e w' ⟨rfl, rfl⟩
      go_wp2_with fail
      go_ret
      exact ⟨rfl, HB.out⟩

theorem place_any (A : Option Addr) (n c : Nat) (off r k ld : Int) (i j p : Int) (w : World) (hp : off + i + j * ld = p) (h1 : I64 (off + i)) (h2 : I64 (j * ld)) (h3 : I64 p) :
    Calls Try.prog 58 #[mat A n c off r k ld, .int .i64 i, .int .i64 j] w fun e w' => e = .returned (.int .i64 p) ∧ Below w.heap.size w w' := by
  unfold I64 at h1 h2 h3
  have w1 : IntKind.i64.wrap (off + i) = off + i := wrapi (by omega) (by omega)
  have w2 : IntKind.i64.wrap (j * ld) = j * ld := wrapi (by omega) (by omega)
  have w3 : IntKind.i64.wrap p = p := wrapi (by omega) (by omega)
  have v1 : wrap64 (off + i) = off + i := by unfold wrap64; omega
  have v3 : wrap64 p = p := by unfold wrap64; omega
  unfold mat
  go_enter Try.func58, Try.ntmps58
  go_wp2_with fail
  go_ret
  exact ⟨rfl, (Below.refl w.heap.size w).alloc (Nat.le_refl _) _⟩

end Go.Proofs.Ytcdhpoikppfjkaa
/-
Meet. Conditions: as each says.
-/
set_option linter.unusedVariables false
namespace Go.Proofs.Ytcdhpoikppfjkaa
open Go.RowKit
attribute [local go_sem ↓] Go.wp_at_zero Go.wp_at_succ

theorem held10 {w W w' : World} {b0 o0 b1 o1 b2 o2 b3 o3 b4 o4 b5 o5 b6 o6 b7 o7 b8 o8 b9 o9 : Nat} {v0 v1 v2 v3 v4 v5 v6 v7 v8 v9 : Value} (h : W.cell? ⟨b0, o0, none⟩ = some v0 ∧ W.cell? ⟨b1, o1, none⟩ = some v1 ∧ W.cell? ⟨b2, o2, none⟩ = some v2 ∧ W.cell? ⟨b3, o3, none⟩ = some v3 ∧ W.cell? ⟨b4, o4, none⟩ = some v4 ∧ W.cell? ⟨b5, o5, none⟩ = some v5 ∧ W.cell? ⟨b6, o6, none⟩ = some v6 ∧ W.cell? ⟨b7, o7, none⟩ = some v7 ∧ W.cell? ⟨b8, o8, none⟩ = some v8 ∧ W.cell? ⟨b9, o9, none⟩ = some v9 ∧ Below w.heap.size w W) (hb : Below W.heap.size W w') :
    w'.cell? ⟨b0, o0, none⟩ = some v0 ∧ w'.cell? ⟨b1, o1, none⟩ = some v1 ∧ w'.cell? ⟨b2, o2, none⟩ = some v2 ∧ w'.cell? ⟨b3, o3, none⟩ = some v3 ∧ w'.cell? ⟨b4, o4, none⟩ = some v4 ∧ w'.cell? ⟨b5, o5, none⟩ = some v5 ∧ w'.cell? ⟨b6, o6, none⟩ = some v6 ∧ w'.cell? ⟨b7, o7, none⟩ = some v7 ∧ w'.cell? ⟨b8, o8, none⟩ = some v8 ∧ w'.cell? ⟨b9, o9, none⟩ = some v9 ∧ Below w.heap.size w w' :=
  ⟨cell_below h.1 hb, cell_below h.2.1 hb, cell_below h.2.2.1 hb, cell_below h.2.2.2.1 hb, cell_below h.2.2.2.2.1 hb, cell_below h.2.2.2.2.2.1 hb, cell_below h.2.2.2.2.2.2.1 hb, cell_below h.2.2.2.2.2.2.2.1 hb, cell_below h.2.2.2.2.2.2.2.2.1 hb, cell_below h.2.2.2.2.2.2.2.2.2.1 hb, h.2.2.2.2.2.2.2.2.2.2.trans (hb.mono h.2.2.2.2.2.2.2.2.2.2.size)⟩

theorem info_ptr : (Try.prog.info? 43).isSome = true := by kernel_rfl
@[go_sem] theorem run_eql_f64 (a : Addr) (W : World) : (binOp .eql 75 (.pointer (some a)) (.pointer (some a))).run Try.prog W = .ok (.bool true) W := by
  obtain ⟨j, hj⟩ := Option.isSome_iff_exists.1 info_ptr
  exact run_eql_ptr_same (P := Try.prog) W a Try.underlying75 hj

/-- Where a matrix' last number stands. -/
def lastI (off r k ld : Int) : Int := off + (r - 1) + (k - 1) * ld
theorem last_any (A : Option Addr) (n c : Nat) (off r k ld : Int) (w : World) (hn : n < 9223372036854775808) (hm : matB n off r k ld = true) (hr : 0 < r) (hk : 0 < k) (hr2 : I64 r) (hk2 : I64 k) :
    Calls Try.prog 44 #[mat A n c off r k ld] w fun e w' => e = .returned (.int .i64 (lastI off r k ld)) ∧ Below w.heap.size w w' := by
  have h := of_decide_eq_true hm
  have h0 : 0 ≤ (k - 1) * ld := Int.mul_nonneg (by omega) (by omega)
  obtain ⟨p, hp⟩ : ∃ p, lastI off r k ld = p := ⟨_, rfl⟩
  have hp' : off + (r - 1) + (k - 1) * ld = p := hp
  rw [hp]
  unfold I64 at hr2 hk2
  have H1 := Lib.hid (fun W => place_any A n c off r k ld (r - 1) (k - 1) p W hp' (by unfold I64; omega) (by unfold I64; omega) (by unfold I64; omega))
  have u1 : IntKind.i64.wrap (r - 1) = r - 1 := wrapi (by omega) (by omega)
  have u2 : IntKind.i64.wrap (k - 1) = k - 1 := wrapi (by omega) (by omega)
  have v1 : wrap64 (r - 1) = r - 1 := by unfold wrap64; omega
  have v2 : wrap64 (k - 1) = k - 1 := by unfold wrap64; omega
  clear hm h h0 hp hp'
  unfold mat at *
  go_enter Try.func44, Try.ntmps44
  go_wp2_with fail
  refine (H1.out _).mono ?_
  rintro e w1 ⟨rfl, hb⟩
  have HB := Lib.hid (((Below.refl w.heap.size w).alloc (Nat.le_refl _) (.cells #[.slice A n c, .int .i64 off, .int .i64 r, .int .i64 k, .int .i64 ld] 24)).trans (hb.mono (by simp)))
  clear hb
  go_wp2_with fail
  go_ret
  exact ⟨rfl, HB.out⟩

/-- Are both right and have both numbers? -/
def bothB (n : Nat) (off r k ld : Int) (n' : Nat) (off' r' k' ld' : Int) : Bool := matB n off r k ld && matB n' off' r' k' ld' && !(r == 0 || k == 0) && !(r' == 0 || k' == 0)

/-- Matrices that aren't right, or have no numbers. -/
theorem meet_none (A : Option Addr) (n c : Nat) (off r k ld : Int) (A' : Option Addr) (n' c' : Nat) (off' r' k' ld' : Int) (w : World) (hn : n < 9223372036854775808) (ho : I64 off) (hr : I64 r) (hk : I64 k) (hi : I64 ld)
    (hn' : n' < 9223372036854775808) (ho' : I64 off') (hr' : I64 r') (hk' : I64 k') (hi' : I64 ld') (h : bothB n off r k ld n' off' r' k' ld' = false) :
    Calls Try.prog 30 #[mat A n c off r k ld, mat A' n' c' off' r' k' ld'] w fun e w' => e = .returned (.bool false) ∧ Below w.heap.size w w' := by
  have H1 := Lib.hid (fun W => good_any A n c off r k ld W hn ho hr hk hi)
  have H2 := Lib.hid (fun W => good_any A' n' c' off' r' k' ld' W hn' ho' hr' hk' hi')
  have H3 := Lib.hid (fun W => none_any A n c off r k ld W)
  have H4 := Lib.hid (fun W => none_any A' n' c' off' r' k' ld' W)
  unfold bothB at h
  generalize matB n off r k ld = x at *
  generalize matB n' off' r' k' ld' = x' at *
  generalize (r == 0 || k == 0) = y at *
  generalize (r' == 0 || k' == 0) = y' at *
  clear hn ho hr hk hi hn' ho' hr' hk' hi'
  unfold mat at *
  go_enter Try.func30, Try.ntmps30
  have HZ0 := Lib.hid ((Blk.new w 24 #[.slice A n c, .int .i64 off, .int .i64 r, .int .i64 k, .int .i64 ld]).alloc (.cells #[.slice A' n' c', .int .i64 off', .int .i64 r', .int .i64 k', .int .i64 ld'] 24))
  have HZ1 := Lib.hid (Blk.new_ (w.alloc (.cells #[.slice A n c, .int .i64 off, .int .i64 r, .int .i64 k, .int .i64 ld] 24)) 24 #[.slice A' n' c', .int .i64 off', .int .i64 r', .int .i64 k', .int .i64 ld'] (w.heap.size + 1) (by simp))
  have HB0 := Lib.hid (((Below.refl w.heap.size w).alloc (Nat.le_refl _) (.cells #[.slice A n c, .int .i64 off, .int .i64 r, .int .i64 k, .int .i64 ld] 24)).alloc (by simp) (.cells #[.slice A' n' c', .int .i64 off', .int .i64 r', .int .i64 k', .int .i64 ld'] 24))
  go_wp2_with fail
  refine (H1.out _).mono ?_
  rintro e w1 ⟨rfl, hb1⟩
  have HZ2 := Lib.hid (HZ0.out.nxt hb1)
  have HZ3 := Lib.hid (HZ1.out.nxt hb1)
  have HB1 := Lib.hid (HB0.out.trans (hb1.mono HB0.out.size))
  obtain ⟨c0, c1, c2, c3, c4⟩ := cells5 HZ2.out
  obtain ⟨d0, d1, d2, d3, d4⟩ := cells5 HZ3.out
  clear hb1
  cases x
  · go_wp2_with fail
    go_ret
    exact ⟨rfl, HB1.out⟩
  go_wp2_with fail
  refine (H2.out _).mono ?_
  rintro e w2 ⟨rfl, hb1⟩
  clear c0 c1 c2 c3 c4 d0 d1 d2 d3 d4
  have HZ4 := Lib.hid (HZ2.out.nxt hb1)
  have HZ5 := Lib.hid (HZ3.out.nxt hb1)
  have HB2 := Lib.hid (HB1.out.trans (hb1.mono HB1.out.size))
  obtain ⟨c0, c1, c2, c3, c4⟩ := cells5 HZ4.out
  obtain ⟨d0, d1, d2, d3, d4⟩ := cells5 HZ5.out
  clear hb1
  cases x'
  · go_wp2_with fail
    go_ret
    exact ⟨rfl, HB2.out⟩
  go_wp2_with fail
  refine (H3.out _).mono ?_
  rintro e w3 ⟨rfl, hb1⟩
  clear c0 c1 c2 c3 c4 d0 d1 d2 d3 d4
  have HZ6 := Lib.hid (HZ4.out.nxt hb1)
  have HZ7 := Lib.hid (HZ5.out.nxt hb1)
  have HB3 := Lib.hid (HB2.out.trans (hb1.mono HB2.out.size))
  obtain ⟨c0, c1, c2, c3, c4⟩ := cells5 HZ6.out
  obtain ⟨d0, d1, d2, d3, d4⟩ := cells5 HZ7.out
  clear hb1
  cases y
  · cases y'
    · cases h
    · go_wp2_with fail
      refine (H4.out _).mono ?_
      rintro e w4 ⟨rfl, hb1⟩
      have HB4 := Lib.hid (HB3.out.trans (hb1.mono HB3.out.size))
      clear hb1
      go_wp2_with fail
      go_ret
      exact ⟨rfl, HB4.out⟩
  · go_wp2_with fail
    go_ret
    exact ⟨rfl, HB3.out⟩

set_option maxHeartbeats 2000000 in
/-- Matrices in lists that aren't one. -/
theorem meet_far (b o n c : Nat) (off r k ld : Int) (b' o' n' c' : Nat) (off' r' k' ld' : Int) (w : World) (hn : n < 9223372036854775808) (ho : I64 off) (hr : I64 r) (hk : I64 k) (hi : I64 ld)
    (hn' : n' < 9223372036854775808) (ho' : I64 off') (hr' : I64 r') (hk' : I64 k') (hi' : I64 ld') (h : bothB n off r k ld n' off' r' k' ld' = true) (hn0 : 0 < n) (hn0' : 0 < n')
    (hq : ∀ W, Below w.heap.size w W → (binOp .eql 75 (.pointer (some ⟨b, o, none⟩)) (.pointer (some ⟨b', o', none⟩))).run Try.prog W = .ok (.bool false) W) :
    Calls Try.prog 30 #[mat (some ⟨b, o, none⟩) n c off r k ld, mat (some ⟨b', o', none⟩) n' c' off' r' k' ld'] w fun e w' => e = .returned (.bool false) ∧ Below w.heap.size w w' := by
  have hb := h
  unfold bothB at hb
  simp only [Bool.and_eq_true, Bool.not_eq_true', Bool.or_eq_false_iff, beq_eq_false_iff_ne, ne_eq] at hb
  obtain ⟨⟨⟨g1, g2⟩, g3, g4⟩, g5, g6⟩ := hb
  have g1' := of_decide_eq_true g1
  have g2' := of_decide_eq_true g2
  have H1 := Lib.hid (fun W => good_any (some ⟨b, o, none⟩) n c off r k ld W hn ho hr hk hi)
  have H2 := Lib.hid (fun W => good_any (some ⟨b', o', none⟩) n' c' off' r' k' ld' W hn' ho' hr' hk' hi')
  have H3 := Lib.hid (fun W => none_any (some ⟨b, o, none⟩) n c off r k ld W)
  have H4 := Lib.hid (fun W => none_any (some ⟨b', o', none⟩) n' c' off' r' k' ld' W)
  rw [show (r == 0 || k == 0) = false by simp [g3, g4]] at H3
  rw [show (r' == 0 || k' == 0) = false by simp [g5, g6]] at H4
  rw [g1] at H1
  rw [g2] at H2
  have n1 : (0 : Int) < (n : Int) := by omega
  have n2 : (0 : Int) < (n' : Int) := by omega
  clear hn ho hr hk hi hn' ho' hr' hk' hi' g1 g2 g3 g4 g5 g6 h g1' g2'
  unfold mat at *
  go_enter Try.func30, Try.ntmps30
  have HZ0 := Lib.hid ((Blk.new w 24 #[.slice (some ⟨b, o, none⟩) n c, .int .i64 off, .int .i64 r, .int .i64 k, .int .i64 ld]).alloc (.cells #[.slice (some ⟨b', o', none⟩) n' c', .int .i64 off', .int .i64 r', .int .i64 k', .int .i64 ld'] 24))
  have HZ1 := Lib.hid (Blk.new_ (w.alloc (.cells #[.slice (some ⟨b, o, none⟩) n c, .int .i64 off, .int .i64 r, .int .i64 k, .int .i64 ld] 24)) 24 #[.slice (some ⟨b', o', none⟩) n' c', .int .i64 off', .int .i64 r', .int .i64 k', .int .i64 ld'] (w.heap.size + 1) (by simp))
  have HB0 := Lib.hid (((Below.refl w.heap.size w).alloc (Nat.le_refl _) (.cells #[.slice (some ⟨b, o, none⟩) n c, .int .i64 off, .int .i64 r, .int .i64 k, .int .i64 ld] 24)).alloc (by simp) (.cells #[.slice (some ⟨b', o', none⟩) n' c', .int .i64 off', .int .i64 r', .int .i64 k', .int .i64 ld'] 24))
  go_wp2_with fail
  refine (H1.out _).mono ?_
  rintro e w1 ⟨rfl, hb1⟩
  have HZ2 := Lib.hid (HZ0.out.nxt hb1)
  have HZ3 := Lib.hid (HZ1.out.nxt hb1)
  have HB1 := Lib.hid (HB0.out.trans (hb1.mono HB0.out.size))
  obtain ⟨c0, c1, c2, c3, c4⟩ := cells5 HZ2.out
  obtain ⟨d0, d1, d2, d3, d4⟩ := cells5 HZ3.out
  clear hb1
  go_wp2_with fail
  refine (H2.out _).mono ?_
  rintro e w2 ⟨rfl, hb1⟩
  clear c0 c1 c2 c3 c4 d0 d1 d2 d3 d4
  have HZ4 := Lib.hid (HZ2.out.nxt hb1)
  have HZ5 := Lib.hid (HZ3.out.nxt hb1)
  have HB2 := Lib.hid (HB1.out.trans (hb1.mono HB1.out.size))
  obtain ⟨c0, c1, c2, c3, c4⟩ := cells5 HZ4.out
  obtain ⟨d0, d1, d2, d3, d4⟩ := cells5 HZ5.out
  clear hb1
  go_wp2_with fail
  refine (H3.out _).mono ?_
  rintro e w3 ⟨rfl, hb1⟩
  clear c0 c1 c2 c3 c4 d0 d1 d2 d3 d4
  have HZ6 := Lib.hid (HZ4.out.nxt hb1)
  have HZ7 := Lib.hid (HZ5.out.nxt hb1)
  have HB3 := Lib.hid (HB2.out.trans (hb1.mono HB2.out.size))
  obtain ⟨c0, c1, c2, c3, c4⟩ := cells5 HZ6.out
  obtain ⟨d0, d1, d2, d3, d4⟩ := cells5 HZ7.out
  clear hb1
  go_wp2_with fail
  refine (H4.out _).mono ?_
  rintro e w4 ⟨rfl, hb1⟩
  clear c0 c1 c2 c3 c4 d0 d1 d2 d3 d4
  have HZ8 := Lib.hid (HZ6.out.nxt hb1)
  have HZ9 := Lib.hid (HZ7.out.nxt hb1)
  have HB4 := Lib.hid (HB3.out.trans (hb1.mono HB3.out.size))
  obtain ⟨c0, c1, c2, c3, c4⟩ := cells5 HZ8.out
  obtain ⟨d0, d1, d2, d3, d4⟩ := cells5 HZ9.out
  clear hb1
  go_wp2_with fail
  have hrun := hq w4 HB4.out
  have hrun0 := hq w4.drew HB4.out.drew
  have hrunN := fun m => hq (w4.drewN m) (below_drewN HB4.out m)
  have hbn := fun m => below_drewN HB4.out m
  clear hq
  go_quiet (fail)
  go_wp2_with fail
  go_ret
  exact ⟨rfl, by first | exact HB4.out | exact HB4.out.drew | exact hbn _⟩

end Go.Proofs.Ytcdhpoikppfjkaa
