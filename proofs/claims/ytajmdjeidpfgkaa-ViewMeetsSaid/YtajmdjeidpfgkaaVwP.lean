/-
ViewMeets, the rest. Conditions: the first cell of the list isn't shared with a string.
-/
import Derived.Test.YtajmdjeidpfgkaaVwN
set_option linter.unusedVariables false
namespace Go.Proofs.Ytajmdjeidpfgkaa
open Go.RowKit
attribute [local go_sem ↓] Go.wp_at_zero Go.wp_at_succ

set_option maxHeartbeats 4000000 in
set_option maxRecDepth 100000 in
theorem viewMeets_rest (A : Option Addr) (c : Nat) (l : List Nat) (off r k ld : Int) (A' : Option Addr) (n' c' : Nat) (off' r' k' ld' : Int) (w : World) (hA : Row w A (f64s l)) (hfz : ∀ b o, A = some ⟨b, o, none⟩ → l ≠ [] → w.frozen? ⟨b, o, none⟩ = false) (hl : l.length ≤ 1000)
    (ho : I64 off) (hr : I64 r) (hk : I64 k) (hi : I64 ld) (ho' : I64 off') (hr' : I64 r') (hk' : I64 k') (hi' : I64 ld') :
    Calls Try.prog 5 #[mat A l.length c off r k ld, mat A' n' c' off' r' k' ld'] w fun e w' => e = .returned (.bool true) ∧ Below w.heap.size w w' := by
  have HG1 := Lib.hid (fun W => rgood_any A l.length c off r k ld W (by omega) ho hr hk hi)
  have HG2 := Lib.hid (fun W => rgood_any A l.length c off' r' k' ld' W (by omega) ho' hr' hk' hi')
  have hpos : ∀ b o, A = some ⟨b, o, none⟩ → l ≠ [] → b < w.heap.size := by
    intro b o e hne
    have h0 : 0 < l.length := List.length_pos_iff.2 hne
    obtain ⟨b', o', e', hb, _⟩ := hA.at_ (f64s_get l 0 h0)
    rw [e] at e'
    injection e' with e'
    injection e' with e1 e2
    subst e1
    exact hb
  have HMt := Lib.hid (fun W (hW : Below w.heap.size w W) (A2 : Option Addr) (c2 : Nat) (x1 x2 x3 x4 y1 y2 y3 y4 : Int) (res : Bool)
    (hx : (A2 = A ∧ c2 = c ∧ (x1 = off ∧ x2 = r ∧ x3 = k ∧ x4 = ld) ∧ (y1 = off' ∧ y2 = r' ∧ y3 = k' ∧ y4 = ld') ∧ res = wantB l.length off r k ld off' r' k' ld')
        ∨ (A2 = A ∧ c2 = c ∧ (x1 = off' ∧ x2 = r' ∧ x3 = k' ∧ x4 = ld') ∧ (y1 = off ∧ y2 = r ∧ y3 = k ∧ y4 = ld) ∧ res = wantB l.length off r k ld off' r' k' ld')
        ∨ (∃ g, A2 = some ⟨g, 0, none⟩ ∧ w.heap.size ≤ g ∧ Own W g l ∧ (x1 = off ∧ x2 = r ∧ x3 = k ∧ x4 = ld) ∧ (y1 = off' ∧ y2 = r' ∧ y3 = k' ∧ y4 = ld') ∧ res = false)) =>
    show Calls Try.prog 16 #[mat A l.length c x1 x2 x3 x4, mat A2 l.length c2 y1 y2 y3 y4] W fun e w' => e = .returned (.bool res) ∧ Below W.heap.size W w' by
      rcases hx with ⟨rfl, rfl, ⟨rfl, rfl, rfl, rfl⟩, ⟨rfl, rfl, rfl, rfl⟩, rfl⟩ | ⟨rfl, rfl, ⟨rfl, rfl, rfl, rfl⟩, ⟨rfl, rfl, rfl, rfl⟩, rfl⟩ | ⟨g, rfl, hg, hO, ⟨rfl, rfl, rfl, rfl⟩, ⟨rfl, rfl, rfl, rfl⟩, rfl⟩
      · exact meet_one _ _ l _ _ _ _ _ _ _ _ W (hA.below hW) (by omega) ho hr hk hi ho' hr' hk' hi'
      · rw [want_comm]
        exact meet_one _ _ l _ _ _ _ _ _ _ _ W (hA.below hW) (by omega) ho' hr' hk' hi' ho hr hk hi
      · exact meet_apart _ _ l _ _ _ _ g _ _ _ _ _ W (hA.below hW) (fun b o e hne => (hW.frozen (p := ⟨b, o, none⟩) (hpos b o e hne)).trans (hfz b o e hne)) hO (fun b o e hne => by have := hpos b o e hne; omega) (by omega) ho hr hk hi ho' hr' hk' hi')
  have HAp := Lib.hid (fun W (hW : Below w.heap.size w W) => rapart_any A c l off' r' k' ld' W (hA.below hW) (by omega))
  have h1 : ¬ (1000 : Int) < (l.length : Int) := by omega
  -- how what is expected is reckoned
  have hwant : (bothB l.length off r k ld l.length off' r' k' ld' = false ∧ wantB l.length off r k ld off' r' k' ld' = false) ∨
      (bothB l.length off r k ld l.length off' r' k' ld' = true ∧ matB l.length off r k ld = true ∧ matB l.length off' r' k' ld' = true ∧ 0 < r ∧ 0 < k ∧ 0 < r' ∧ 0 < k' ∧ wantB l.length off r k ld off' r' k' ld' = (decide (off ≤ off' + (k' - 1) * ld' + r' - 1) && decide (off' ≤ off + (k - 1) * ld + r - 1)) ∧
        Hid (I64 ((k' - 1) * ld') ∧ I64 (off' + (k' - 1) * ld') ∧ I64 (off' + (k' - 1) * ld' + r') ∧ I64 (off' + (k' - 1) * ld' + r' - 1) ∧ I64 ((k - 1) * ld) ∧ I64 (off + (k - 1) * ld) ∧ I64 (off + (k - 1) * ld + r) ∧ I64 (off + (k - 1) * ld + r - 1))) := by
    cases hb : bothB l.length off r k ld l.length off' r' k' ld'
    · exact .inl ⟨rfl, by unfold wantB; rw [hb]; rfl⟩
    · right
      have hb2 := hb
      unfold bothB at hb2
      simp only [Bool.and_eq_true, Bool.not_eq_true', Bool.or_eq_false_iff, beq_eq_false_iff_ne, ne_eq] at hb2
      obtain ⟨⟨⟨g1, g2⟩, g3, g4⟩, g5, g6⟩ := hb2
      have g1' := of_decide_eq_true g1
      have g2' := of_decide_eq_true g2
      have z1 : 0 ≤ (k - 1) * ld := Int.mul_nonneg (by omega) (by omega)
      have z2 : 0 ≤ (k' - 1) * ld' := Int.mul_nonneg (by omega) (by omega)
      unfold I64 at *
      refine ⟨rfl, g1, g2, by omega, by omega, by omega, by omega, ?_, Lib.hid ?_⟩
      · unfold wantB lastI
        rw [hb, Bool.true_and, show off' + (r' - 1) + (k' - 1) * ld' = off' + (k' - 1) * ld' + r' - 1 by omega, show off + (r - 1) + (k - 1) * ld = off + (k - 1) * ld + r - 1 by omega]
      · omega
  have hwhyAll := fun h => both_why (n := l.length) (off := off) (r := r) (k := k) (ld := ld) (off' := off') (r' := r') (k' := k') (ld' := ld') h
  have hright : ∀ (h : bothB l.length off r k ld l.length off' r' k' ld' = true), True := fun _ => trivial
  generalize hwd : wantB l.length off r k ld off' r' k' ld' = wd at *
  generalize hbb : bothB l.length off r k ld l.length off' r' k' ld' = bb at *
  clear hright
  have HA := Lib.hid hA
  clear hA hfz hl hpos
  unfold mat at *
  go_enter Try.func5, Try.ntmps5
  go_wp2_with fail
  refine (awake_any _).mono ?_
  rintro e w1 ⟨rfl, hb1⟩
  have HZ0 := Lib.hid (((Blk.new w 26 #[.slice A l.length c, .int .i64 off, .int .i64 r, .int .i64 k, .int .i64 ld]).alloc (.cells #[.slice A' n' c', .int .i64 off', .int .i64 r', .int .i64 k', .int .i64 ld'] 26)).nxt hb1)
  have HZ1 := Lib.hid ((Blk.new_ (w.alloc (.cells #[.slice A l.length c, .int .i64 off, .int .i64 r, .int .i64 k, .int .i64 ld] 26)) 26 #[.slice A' n' c', .int .i64 off', .int .i64 r', .int .i64 k', .int .i64 ld'] (w.heap.size + 1) (by simp)).nxt hb1)
  have HB1 := Lib.hid ((((Below.refl w.heap.size w).alloc (Nat.le_refl _) (.cells #[.slice A l.length c, .int .i64 off, .int .i64 r, .int .i64 k, .int .i64 ld] 26)).alloc (by simp) (.cells #[.slice A' n' c', .int .i64 off', .int .i64 r', .int .i64 k', .int .i64 ld'] 26)).trans (hb1.mono (by simp; omega)))
  clear hb1
  obtain ⟨c0, c1, c2, c3, c4⟩ := cells5 HZ0.out
  obtain ⟨d0, d1, d2, d3, d4⟩ := cells5 HZ1.out
  obtain ⟨f0, _, _, _, _⟩ := frozen5 HZ1.out
  have HZ2 := Lib.hid (HZ0.out.other (p := ⟨w.heap.size + 1, 0, none⟩) (by simp) (.slice A l.length c))
  have hz3 := HZ1.out.set_ 0 (.slice A l.length c)
  have HZ3 := Lib.hid (show Blk (w1.setCell ⟨w.heap.size + 1, 0, none⟩ (.slice A l.length c)) (w.heap.size + 1) 26 #[.slice A l.length c, .int .i64 off', .int .i64 r', .int .i64 k', .int .i64 ld'] by simpa using hz3)
  have HB2 := Lib.hid (HB1.out.setCell (p := ⟨w.heap.size + 1, 0, none⟩) (by simp) (.slice A l.length c))
  clear hz3
  go_upto_region 7 with fail
  generalize w1.setCell ⟨w.heap.size + 1, 0, none⟩ (.slice A l.length c) = W2 at *
  clear c0 c1 c2 c3 c4 d0 d1 d2 d3 d4 f0 HZ0 HZ1 HB1
  go_cut [41] (fun s wx => s = .bool bb ∧ Blk wx w.heap.size 26 #[.slice A l.length c, .int .i64 off, .int .i64 r, .int .i64 k, .int .i64 ld] ∧ Blk wx (w.heap.size + 1) 26 #[.slice A l.length c, .int .i64 off', .int .i64 r', .int .i64 k', .int .i64 ld'] ∧ Below w.heap.size w wx)
  case first =>
    rcases hwant with ⟨rfl, rfl⟩ | ⟨rfl, m1, m2, p1, p2, p3, p4, hw, HI⟩
    · have hwhy := hwhyAll rfl
      clear hwd hbb hwhyAll
      generalize matB l.length off r k ld = y1 at *
      generalize matB l.length off' r' k' ld' = y2 at *
      clear ho hr hk hi ho' hr' hk' hi'
      obtain ⟨c0, c1, c2, c3, c4⟩ := cells5 HZ2.out
      go_wp2_with fail
      refine (HG1.out _).mono ?_
      rintro e w3 ⟨rfl, hb3⟩
      have HZ4 := Lib.hid (HZ2.out.nxt hb3)
      have HZ5 := Lib.hid (HZ3.out.nxt hb3)
      have HB3 := Lib.hid (HB2.out.trans (hb3.mono HB2.out.size))
      clear hb3 c0 c1 c2 c3 c4
      obtain ⟨c0, c1, c2, c3, c4⟩ := cells5 HZ4.out
      obtain ⟨d0, d1, d2, d3, d4⟩ := cells5 HZ5.out
      rcases hwhy with rfl | ⟨rfl, hwhy⟩
      · go_wp2_with fail
        go_meet
        exact ⟨rfl, HZ4.out, HZ5.out, HB3.out⟩
      go_wp2_with fail
      refine (HG2.out _).mono ?_
      rintro e w4 ⟨rfl, hb4⟩
      have HZ6 := Lib.hid (HZ4.out.nxt hb4)
      have HZ7 := Lib.hid (HZ5.out.nxt hb4)
      have HB4 := Lib.hid (HB3.out.trans (hb4.mono HB3.out.size))
      clear hb4 c0 c1 c2 c3 c4 d0 d1 d2 d3 d4
      obtain ⟨c0, c1, c2, c3, c4⟩ := cells5 HZ6.out
      obtain ⟨d0, d1, d2, d3, d4⟩ := cells5 HZ7.out
      rcases hwhy with rfl | ⟨rfl, hwhy⟩
      · go_wp2_with fail
        go_meet
        exact ⟨rfl, HZ6.out, HZ7.out, HB4.out⟩
      rcases hwhy with h2 | ⟨h2, h3 | ⟨h3, h4 | ⟨h4, h5⟩⟩⟩
      all_goals
        go_wp2_with fail
        go_meet
        first | exact ⟨rfl, HZ6.out, HZ7.out, HB4.out⟩ | exact ⟨congrArg Value.bool (decide_eq_false (by omega)), HZ6.out, HZ7.out, HB4.out⟩
    · rw [m1] at HG1
      rw [m2] at HG2
      clear ho hr hi ho' hr' hi' hk hk' m1 m2
      obtain ⟨c0, c1, c2, c3, c4⟩ := cells5 HZ2.out
      go_wp2_with fail
      refine (HG1.out _).mono ?_
      rintro e w3 ⟨rfl, hb3⟩
      have HZ4 := Lib.hid (HZ2.out.nxt hb3)
      have HZ5 := Lib.hid (HZ3.out.nxt hb3)
      have HB3 := Lib.hid (HB2.out.trans (hb3.mono HB2.out.size))
      clear hb3 c0 c1 c2 c3 c4
      obtain ⟨c0, c1, c2, c3, c4⟩ := cells5 HZ4.out
      obtain ⟨d0, d1, d2, d3, d4⟩ := cells5 HZ5.out
      go_wp2_with fail
      refine (HG2.out _).mono ?_
      rintro e w4 ⟨rfl, hb4⟩
      have HZ6 := Lib.hid (HZ4.out.nxt hb4)
      have HZ7 := Lib.hid (HZ5.out.nxt hb4)
      have HB4 := Lib.hid (HB3.out.trans (hb4.mono HB3.out.size))
      clear hb4 c0 c1 c2 c3 c4 d0 d1 d2 d3 d4
      obtain ⟨c0, c1, c2, c3, c4⟩ := cells5 HZ6.out
      obtain ⟨d0, d1, d2, d3, d4⟩ := cells5 HZ7.out
      go_wp2_with fail
      go_meet
      exact ⟨rfl, HZ6.out, HZ7.out, HB4.out⟩
  case rest =>
    obtain ⟨rfl, hz0, hz1, hbl⟩ := hcut
    obtain ⟨c0, c1, c2, c3, c4⟩ := cells5 hz0
    obtain ⟨d0, d1, d2, d3, d4⟩ := cells5 hz1
    have HB := Lib.hid hbl
    have HKs := Lib.hid (And.intro hk hk')
    clear hz0 hz1 hbl hwd hbb hwhyAll ho hr hk hi ho' hr' hk' hi'
    rcases hwant with ⟨rfl, rfl⟩ | ⟨rfl, m1, m2, p1, p2, p3, p4, hw, HI⟩
    · go_upto_region 9 with fail
      go_region_held3 (fun w' => w'.cell? ⟨w.heap.size, 0, none⟩ = some (.slice A l.length c) ∧ w'.cell? ⟨w.heap.size, 1, none⟩ = some (.int .i64 off) ∧ w'.cell? ⟨w.heap.size, 2, none⟩ = some (.int .i64 r) ∧ w'.cell? ⟨w.heap.size, 3, none⟩ = some (.int .i64 k) ∧ w'.cell? ⟨w.heap.size, 4, none⟩ = some (.int .i64 ld) ∧ w'.cell? ⟨w.heap.size + 1, 0, none⟩ = some (.slice A l.length c) ∧ w'.cell? ⟨w.heap.size + 1, 1, none⟩ = some (.int .i64 off') ∧ w'.cell? ⟨w.heap.size + 1, 2, none⟩ = some (.int .i64 r') ∧ w'.cell? ⟨w.heap.size + 1, 3, none⟩ = some (.int .i64 k') ∧ w'.cell? ⟨w.heap.size + 1, 4, none⟩ = some (.int .i64 ld') ∧ Below w.heap.size w w')
        (first | exact ⟨c0, c1, c2, c3, c4, d0, d1, d2, d3, d4, HB.out.drew⟩ | exact held10 ‹_ ∧ _ ∧ _ ∧ _ ∧ _ ∧ _ ∧ _ ∧ _ ∧ _ ∧ _ ∧ Below w.heap.size w _› hbA | exact held10 ‹_ ∧ _ ∧ _ ∧ _ ∧ _ ∧ _ ∧ _ ∧ _ ∧ _ ∧ _ ∧ Below w.heap.size w _› hbB | exact held10 ‹_ ∧ _ ∧ _ ∧ _ ∧ _ ∧ _ ∧ _ ∧ _ ∧ _ ∧ _ ∧ Below w.heap.size w _› hbC)
        (first
          | (go_at_call 16; refine (HMt.out _ (‹_ ∧ _ ∧ _ ∧ _ ∧ _ ∧ _ ∧ _ ∧ _ ∧ _ ∧ _ ∧ Below w.heap.size w _›).2.2.2.2.2.2.2.2.2.2 _ _ _ _ _ _ _ _ _ _ _ (by first | exact .inl ⟨rfl, rfl, ⟨rfl, rfl, rfl, rfl⟩, ⟨rfl, rfl, rfl, rfl⟩, rfl⟩ | exact .inr (.inl ⟨rfl, rfl, ⟨rfl, rfl, rfl, rfl⟩, ⟨rfl, rfl, rfl, rfl⟩, rfl⟩) | exact .inr (.inr ⟨_, rfl, hgB2, hOB, ⟨rfl, rfl, rfl, rfl⟩, ⟨rfl, rfl, rfl, rfl⟩, rfl⟩))).mono ?_; rintro e1 wA ⟨rfl, hbA⟩; skip)
          | (go_at_call 13; refine (HAp.out _ (‹_ ∧ _ ∧ _ ∧ _ ∧ _ ∧ _ ∧ _ ∧ _ ∧ _ ∧ _ ∧ Below w.heap.size w _›).2.2.2.2.2.2.2.2.2.2).mono ?_; rintro e1 wB ⟨gB, cB, rfl, hOB, hgB, hcB, hmB, hbB⟩; have hgB2 := Nat.le_trans ((‹_ ∧ _ ∧ _ ∧ _ ∧ _ ∧ _ ∧ _ ∧ _ ∧ _ ∧ _ ∧ Below w.heap.size w _›).2.2.2.2.2.2.2.2.2.2).size hgB; skip)
          | (go_at_call 7; refine (awake_any _).mono ?_; rintro e1 wC ⟨rfl, hbC⟩; skip))
      go_wp2_with fail
      go_ret
      exact ⟨rfl, (‹_ ∧ _ ∧ _ ∧ _ ∧ _ ∧ _ ∧ _ ∧ _ ∧ _ ∧ _ ∧ Below w.heap.size w _›).2.2.2.2.2.2.2.2.2.2⟩
    · clear m1 m2
      by_cases e1 : off ≤ off' + (k' - 1) * ld' + r' - 1
      · by_cases e2 : off' ≤ off + (k - 1) * ld + r - 1
        · obtain rfl : wd = true := by rw [hw, show decide (off ≤ off' + (k' - 1) * ld' + r' - 1) = true from decide_eq_true e1, show decide (off' ≤ off + (k - 1) * ld + r - 1) = true from decide_eq_true e2]; rfl
          clear hw
          have hI := HI.out
          have hKs := HKs.out
          unfold I64 at hI hKs
          have u0 : IntKind.i64.wrap (k' - 1) = (k' - 1) := wrapi (by omega) (by omega)
          have u1 : IntKind.i64.wrap ((k' - 1) * ld') = ((k' - 1) * ld') := wrapi (by omega) (by omega)
          have u2 : IntKind.i64.wrap (off' + (k' - 1) * ld') = (off' + (k' - 1) * ld') := wrapi (by omega) (by omega)
          have u3 : IntKind.i64.wrap (off' + (k' - 1) * ld' + r') = (off' + (k' - 1) * ld' + r') := wrapi (by omega) (by omega)
          have u4 : IntKind.i64.wrap (off' + (k' - 1) * ld' + r' - 1) = (off' + (k' - 1) * ld' + r' - 1) := wrapi (by omega) (by omega)
          have u5 : IntKind.i64.wrap (k - 1) = (k - 1) := wrapi (by omega) (by omega)
          have u6 : IntKind.i64.wrap ((k - 1) * ld) = ((k - 1) * ld) := wrapi (by omega) (by omega)
          have u7 : IntKind.i64.wrap (off + (k - 1) * ld) = (off + (k - 1) * ld) := wrapi (by omega) (by omega)
          have u8 : IntKind.i64.wrap (off + (k - 1) * ld + r) = (off + (k - 1) * ld + r) := wrapi (by omega) (by omega)
          have u9 : IntKind.i64.wrap (off + (k - 1) * ld + r - 1) = (off + (k - 1) * ld + r - 1) := wrapi (by omega) (by omega)
          have x0 : wrap64 (k' - 1) = (k' - 1) := wrap_id (by unfold I64; omega)
          have x1 : wrap64 ((k' - 1) * ld') = ((k' - 1) * ld') := wrap_id (by unfold I64; omega)
          have x2 : wrap64 (off' + (k' - 1) * ld') = (off' + (k' - 1) * ld') := wrap_id (by unfold I64; omega)
          have x3 : wrap64 (off' + (k' - 1) * ld' + r') = (off' + (k' - 1) * ld' + r') := wrap_id (by unfold I64; omega)
          have x4 : wrap64 (off' + (k' - 1) * ld' + r' - 1) = (off' + (k' - 1) * ld' + r' - 1) := wrap_id (by unfold I64; omega)
          have x5 : wrap64 (k - 1) = (k - 1) := wrap_id (by unfold I64; omega)
          have x6 : wrap64 ((k - 1) * ld) = ((k - 1) * ld) := wrap_id (by unfold I64; omega)
          have x7 : wrap64 (off + (k - 1) * ld) = (off + (k - 1) * ld) := wrap_id (by unfold I64; omega)
          have x8 : wrap64 (off + (k - 1) * ld + r) = (off + (k - 1) * ld + r) := wrap_id (by unfold I64; omega)
          have x9 : wrap64 (off + (k - 1) * ld + r - 1) = (off + (k - 1) * ld + r - 1) := wrap_id (by unfold I64; omega)
          clear hI hKs
          go_wp2_with fail
          go_region_held3 (fun w' => w'.cell? ⟨w.heap.size, 0, none⟩ = some (.slice A l.length c) ∧ w'.cell? ⟨w.heap.size, 1, none⟩ = some (.int .i64 off) ∧ w'.cell? ⟨w.heap.size, 2, none⟩ = some (.int .i64 r) ∧ w'.cell? ⟨w.heap.size, 3, none⟩ = some (.int .i64 k) ∧ w'.cell? ⟨w.heap.size, 4, none⟩ = some (.int .i64 ld) ∧ w'.cell? ⟨w.heap.size + 1, 0, none⟩ = some (.slice A l.length c) ∧ w'.cell? ⟨w.heap.size + 1, 1, none⟩ = some (.int .i64 off') ∧ w'.cell? ⟨w.heap.size + 1, 2, none⟩ = some (.int .i64 r') ∧ w'.cell? ⟨w.heap.size + 1, 3, none⟩ = some (.int .i64 k') ∧ w'.cell? ⟨w.heap.size + 1, 4, none⟩ = some (.int .i64 ld') ∧ Below w.heap.size w w')
            (first | exact ⟨c0, c1, c2, c3, c4, d0, d1, d2, d3, d4, HB.out.drew⟩ | exact held10 ‹_ ∧ _ ∧ _ ∧ _ ∧ _ ∧ _ ∧ _ ∧ _ ∧ _ ∧ _ ∧ Below w.heap.size w _› hbA | exact held10 ‹_ ∧ _ ∧ _ ∧ _ ∧ _ ∧ _ ∧ _ ∧ _ ∧ _ ∧ _ ∧ Below w.heap.size w _› hbB | exact held10 ‹_ ∧ _ ∧ _ ∧ _ ∧ _ ∧ _ ∧ _ ∧ _ ∧ _ ∧ _ ∧ Below w.heap.size w _› hbC)
            (first
              | (go_at_call 16; refine (HMt.out _ (‹_ ∧ _ ∧ _ ∧ _ ∧ _ ∧ _ ∧ _ ∧ _ ∧ _ ∧ _ ∧ Below w.heap.size w _›).2.2.2.2.2.2.2.2.2.2 _ _ _ _ _ _ _ _ _ _ _ (by first | exact .inl ⟨rfl, rfl, ⟨rfl, rfl, rfl, rfl⟩, ⟨rfl, rfl, rfl, rfl⟩, rfl⟩ | exact .inr (.inl ⟨rfl, rfl, ⟨rfl, rfl, rfl, rfl⟩, ⟨rfl, rfl, rfl, rfl⟩, rfl⟩) | exact .inr (.inr ⟨_, rfl, hgB2, hOB, ⟨rfl, rfl, rfl, rfl⟩, ⟨rfl, rfl, rfl, rfl⟩, rfl⟩))).mono ?_; rintro e1 wA ⟨rfl, hbA⟩; skip)
              | (go_at_call 13; refine (HAp.out _ (‹_ ∧ _ ∧ _ ∧ _ ∧ _ ∧ _ ∧ _ ∧ _ ∧ _ ∧ _ ∧ Below w.heap.size w _›).2.2.2.2.2.2.2.2.2.2).mono ?_; rintro e1 wB ⟨gB, cB, rfl, hOB, hgB, hcB, hmB, hbB⟩; have hgB2 := Nat.le_trans ((‹_ ∧ _ ∧ _ ∧ _ ∧ _ ∧ _ ∧ _ ∧ _ ∧ _ ∧ _ ∧ Below w.heap.size w _›).2.2.2.2.2.2.2.2.2.2).size hgB; skip)
              | (go_at_call 7; refine (awake_any _).mono ?_; rintro e1 wC ⟨rfl, hbC⟩; skip))
          go_wp2_with fail
          go_ret
          exact ⟨rfl, (‹_ ∧ _ ∧ _ ∧ _ ∧ _ ∧ _ ∧ _ ∧ _ ∧ _ ∧ _ ∧ Below w.heap.size w _›).2.2.2.2.2.2.2.2.2.2⟩
        · obtain rfl : wd = false := by rw [hw, show decide (off' ≤ off + (k - 1) * ld + r - 1) = false from decide_eq_false e2, Bool.and_false]
          clear hw
          have hI := HI.out
          have hKs := HKs.out
          unfold I64 at hI hKs
          have u0 : IntKind.i64.wrap (k' - 1) = (k' - 1) := wrapi (by omega) (by omega)
          have u1 : IntKind.i64.wrap ((k' - 1) * ld') = ((k' - 1) * ld') := wrapi (by omega) (by omega)
          have u2 : IntKind.i64.wrap (off' + (k' - 1) * ld') = (off' + (k' - 1) * ld') := wrapi (by omega) (by omega)
          have u3 : IntKind.i64.wrap (off' + (k' - 1) * ld' + r') = (off' + (k' - 1) * ld' + r') := wrapi (by omega) (by omega)
          have u4 : IntKind.i64.wrap (off' + (k' - 1) * ld' + r' - 1) = (off' + (k' - 1) * ld' + r' - 1) := wrapi (by omega) (by omega)
          have u5 : IntKind.i64.wrap (k - 1) = (k - 1) := wrapi (by omega) (by omega)
          have u6 : IntKind.i64.wrap ((k - 1) * ld) = ((k - 1) * ld) := wrapi (by omega) (by omega)
          have u7 : IntKind.i64.wrap (off + (k - 1) * ld) = (off + (k - 1) * ld) := wrapi (by omega) (by omega)
          have u8 : IntKind.i64.wrap (off + (k - 1) * ld + r) = (off + (k - 1) * ld + r) := wrapi (by omega) (by omega)
          have u9 : IntKind.i64.wrap (off + (k - 1) * ld + r - 1) = (off + (k - 1) * ld + r - 1) := wrapi (by omega) (by omega)
          have x0 : wrap64 (k' - 1) = (k' - 1) := wrap_id (by unfold I64; omega)
          have x1 : wrap64 ((k' - 1) * ld') = ((k' - 1) * ld') := wrap_id (by unfold I64; omega)
          have x2 : wrap64 (off' + (k' - 1) * ld') = (off' + (k' - 1) * ld') := wrap_id (by unfold I64; omega)
          have x3 : wrap64 (off' + (k' - 1) * ld' + r') = (off' + (k' - 1) * ld' + r') := wrap_id (by unfold I64; omega)
          have x4 : wrap64 (off' + (k' - 1) * ld' + r' - 1) = (off' + (k' - 1) * ld' + r' - 1) := wrap_id (by unfold I64; omega)
          have x5 : wrap64 (k - 1) = (k - 1) := wrap_id (by unfold I64; omega)
          have x6 : wrap64 ((k - 1) * ld) = ((k - 1) * ld) := wrap_id (by unfold I64; omega)
          have x7 : wrap64 (off + (k - 1) * ld) = (off + (k - 1) * ld) := wrap_id (by unfold I64; omega)
          have x8 : wrap64 (off + (k - 1) * ld + r) = (off + (k - 1) * ld + r) := wrap_id (by unfold I64; omega)
          have x9 : wrap64 (off + (k - 1) * ld + r - 1) = (off + (k - 1) * ld + r - 1) := wrap_id (by unfold I64; omega)
          clear hI hKs
          go_wp2_with fail
          go_region_held3 (fun w' => w'.cell? ⟨w.heap.size, 0, none⟩ = some (.slice A l.length c) ∧ w'.cell? ⟨w.heap.size, 1, none⟩ = some (.int .i64 off) ∧ w'.cell? ⟨w.heap.size, 2, none⟩ = some (.int .i64 r) ∧ w'.cell? ⟨w.heap.size, 3, none⟩ = some (.int .i64 k) ∧ w'.cell? ⟨w.heap.size, 4, none⟩ = some (.int .i64 ld) ∧ w'.cell? ⟨w.heap.size + 1, 0, none⟩ = some (.slice A l.length c) ∧ w'.cell? ⟨w.heap.size + 1, 1, none⟩ = some (.int .i64 off') ∧ w'.cell? ⟨w.heap.size + 1, 2, none⟩ = some (.int .i64 r') ∧ w'.cell? ⟨w.heap.size + 1, 3, none⟩ = some (.int .i64 k') ∧ w'.cell? ⟨w.heap.size + 1, 4, none⟩ = some (.int .i64 ld') ∧ Below w.heap.size w w')
            (first | exact ⟨c0, c1, c2, c3, c4, d0, d1, d2, d3, d4, HB.out.drew⟩ | exact held10 ‹_ ∧ _ ∧ _ ∧ _ ∧ _ ∧ _ ∧ _ ∧ _ ∧ _ ∧ _ ∧ Below w.heap.size w _› hbA | exact held10 ‹_ ∧ _ ∧ _ ∧ _ ∧ _ ∧ _ ∧ _ ∧ _ ∧ _ ∧ _ ∧ Below w.heap.size w _› hbB | exact held10 ‹_ ∧ _ ∧ _ ∧ _ ∧ _ ∧ _ ∧ _ ∧ _ ∧ _ ∧ _ ∧ Below w.heap.size w _› hbC)
            (first
              | (go_at_call 16; refine (HMt.out _ (‹_ ∧ _ ∧ _ ∧ _ ∧ _ ∧ _ ∧ _ ∧ _ ∧ _ ∧ _ ∧ Below w.heap.size w _›).2.2.2.2.2.2.2.2.2.2 _ _ _ _ _ _ _ _ _ _ _ (by first | exact .inl ⟨rfl, rfl, ⟨rfl, rfl, rfl, rfl⟩, ⟨rfl, rfl, rfl, rfl⟩, rfl⟩ | exact .inr (.inl ⟨rfl, rfl, ⟨rfl, rfl, rfl, rfl⟩, ⟨rfl, rfl, rfl, rfl⟩, rfl⟩) | exact .inr (.inr ⟨_, rfl, hgB2, hOB, ⟨rfl, rfl, rfl, rfl⟩, ⟨rfl, rfl, rfl, rfl⟩, rfl⟩))).mono ?_; rintro e1 wA ⟨rfl, hbA⟩; skip)
              | (go_at_call 13; refine (HAp.out _ (‹_ ∧ _ ∧ _ ∧ _ ∧ _ ∧ _ ∧ _ ∧ _ ∧ _ ∧ _ ∧ Below w.heap.size w _›).2.2.2.2.2.2.2.2.2.2).mono ?_; rintro e1 wB ⟨gB, cB, rfl, hOB, hgB, hcB, hmB, hbB⟩; have hgB2 := Nat.le_trans ((‹_ ∧ _ ∧ _ ∧ _ ∧ _ ∧ _ ∧ _ ∧ _ ∧ _ ∧ _ ∧ Below w.heap.size w _›).2.2.2.2.2.2.2.2.2.2).size hgB; skip)
              | (go_at_call 7; refine (awake_any _).mono ?_; rintro e1 wC ⟨rfl, hbC⟩; skip))
          go_wp2_with fail
          go_ret
          exact ⟨rfl, (‹_ ∧ _ ∧ _ ∧ _ ∧ _ ∧ _ ∧ _ ∧ _ ∧ _ ∧ _ ∧ Below w.heap.size w _›).2.2.2.2.2.2.2.2.2.2⟩
      · obtain rfl : wd = false := by rw [hw, show decide (off ≤ off' + (k' - 1) * ld' + r' - 1) = false from decide_eq_false e1, Bool.false_and]
        clear hw
        have hI := HI.out
        have hKs := HKs.out
        unfold I64 at hI hKs
        have u0 : IntKind.i64.wrap (k' - 1) = (k' - 1) := wrapi (by omega) (by omega)
        have u1 : IntKind.i64.wrap ((k' - 1) * ld') = ((k' - 1) * ld') := wrapi (by omega) (by omega)
        have u2 : IntKind.i64.wrap (off' + (k' - 1) * ld') = (off' + (k' - 1) * ld') := wrapi (by omega) (by omega)
        have u3 : IntKind.i64.wrap (off' + (k' - 1) * ld' + r') = (off' + (k' - 1) * ld' + r') := wrapi (by omega) (by omega)
        have u4 : IntKind.i64.wrap (off' + (k' - 1) * ld' + r' - 1) = (off' + (k' - 1) * ld' + r' - 1) := wrapi (by omega) (by omega)
        have u5 : IntKind.i64.wrap (k - 1) = (k - 1) := wrapi (by omega) (by omega)
        have u6 : IntKind.i64.wrap ((k - 1) * ld) = ((k - 1) * ld) := wrapi (by omega) (by omega)
        have u7 : IntKind.i64.wrap (off + (k - 1) * ld) = (off + (k - 1) * ld) := wrapi (by omega) (by omega)
        have u8 : IntKind.i64.wrap (off + (k - 1) * ld + r) = (off + (k - 1) * ld + r) := wrapi (by omega) (by omega)
        have u9 : IntKind.i64.wrap (off + (k - 1) * ld + r - 1) = (off + (k - 1) * ld + r - 1) := wrapi (by omega) (by omega)
        have x0 : wrap64 (k' - 1) = (k' - 1) := wrap_id (by unfold I64; omega)
        have x1 : wrap64 ((k' - 1) * ld') = ((k' - 1) * ld') := wrap_id (by unfold I64; omega)
        have x2 : wrap64 (off' + (k' - 1) * ld') = (off' + (k' - 1) * ld') := wrap_id (by unfold I64; omega)
        have x3 : wrap64 (off' + (k' - 1) * ld' + r') = (off' + (k' - 1) * ld' + r') := wrap_id (by unfold I64; omega)
        have x4 : wrap64 (off' + (k' - 1) * ld' + r' - 1) = (off' + (k' - 1) * ld' + r' - 1) := wrap_id (by unfold I64; omega)
        have x5 : wrap64 (k - 1) = (k - 1) := wrap_id (by unfold I64; omega)
        have x6 : wrap64 ((k - 1) * ld) = ((k - 1) * ld) := wrap_id (by unfold I64; omega)
        have x7 : wrap64 (off + (k - 1) * ld) = (off + (k - 1) * ld) := wrap_id (by unfold I64; omega)
        have x8 : wrap64 (off + (k - 1) * ld + r) = (off + (k - 1) * ld + r) := wrap_id (by unfold I64; omega)
        have x9 : wrap64 (off + (k - 1) * ld + r - 1) = (off + (k - 1) * ld + r - 1) := wrap_id (by unfold I64; omega)
        clear hI hKs
        go_wp2_with fail
        go_region_held3 (fun w' => w'.cell? ⟨w.heap.size, 0, none⟩ = some (.slice A l.length c) ∧ w'.cell? ⟨w.heap.size, 1, none⟩ = some (.int .i64 off) ∧ w'.cell? ⟨w.heap.size, 2, none⟩ = some (.int .i64 r) ∧ w'.cell? ⟨w.heap.size, 3, none⟩ = some (.int .i64 k) ∧ w'.cell? ⟨w.heap.size, 4, none⟩ = some (.int .i64 ld) ∧ w'.cell? ⟨w.heap.size + 1, 0, none⟩ = some (.slice A l.length c) ∧ w'.cell? ⟨w.heap.size + 1, 1, none⟩ = some (.int .i64 off') ∧ w'.cell? ⟨w.heap.size + 1, 2, none⟩ = some (.int .i64 r') ∧ w'.cell? ⟨w.heap.size + 1, 3, none⟩ = some (.int .i64 k') ∧ w'.cell? ⟨w.heap.size + 1, 4, none⟩ = some (.int .i64 ld') ∧ Below w.heap.size w w')
          (first | exact ⟨c0, c1, c2, c3, c4, d0, d1, d2, d3, d4, HB.out.drew⟩ | exact held10 ‹_ ∧ _ ∧ _ ∧ _ ∧ _ ∧ _ ∧ _ ∧ _ ∧ _ ∧ _ ∧ Below w.heap.size w _› hbA | exact held10 ‹_ ∧ _ ∧ _ ∧ _ ∧ _ ∧ _ ∧ _ ∧ _ ∧ _ ∧ _ ∧ Below w.heap.size w _› hbB | exact held10 ‹_ ∧ _ ∧ _ ∧ _ ∧ _ ∧ _ ∧ _ ∧ _ ∧ _ ∧ _ ∧ Below w.heap.size w _› hbC)
          (first
            | (go_at_call 16; refine (HMt.out _ (‹_ ∧ _ ∧ _ ∧ _ ∧ _ ∧ _ ∧ _ ∧ _ ∧ _ ∧ _ ∧ Below w.heap.size w _›).2.2.2.2.2.2.2.2.2.2 _ _ _ _ _ _ _ _ _ _ _ (by first | exact .inl ⟨rfl, rfl, ⟨rfl, rfl, rfl, rfl⟩, ⟨rfl, rfl, rfl, rfl⟩, rfl⟩ | exact .inr (.inl ⟨rfl, rfl, ⟨rfl, rfl, rfl, rfl⟩, ⟨rfl, rfl, rfl, rfl⟩, rfl⟩) | exact .inr (.inr ⟨_, rfl, hgB2, hOB, ⟨rfl, rfl, rfl, rfl⟩, ⟨rfl, rfl, rfl, rfl⟩, rfl⟩))).mono ?_; rintro e1 wA ⟨rfl, hbA⟩; skip)
            | (go_at_call 13; refine (HAp.out _ (‹_ ∧ _ ∧ _ ∧ _ ∧ _ ∧ _ ∧ _ ∧ _ ∧ _ ∧ _ ∧ Below w.heap.size w _›).2.2.2.2.2.2.2.2.2.2).mono ?_; rintro e1 wB ⟨gB, cB, rfl, hOB, hgB, hcB, hmB, hbB⟩; have hgB2 := Nat.le_trans ((‹_ ∧ _ ∧ _ ∧ _ ∧ _ ∧ _ ∧ _ ∧ _ ∧ _ ∧ _ ∧ Below w.heap.size w _›).2.2.2.2.2.2.2.2.2.2).size hgB; skip)
            | (go_at_call 7; refine (awake_any _).mono ?_; rintro e1 wC ⟨rfl, hbC⟩; skip))
        go_wp2_with fail
        go_ret
        exact ⟨rfl, (‹_ ∧ _ ∧ _ ∧ _ ∧ _ ∧ _ ∧ _ ∧ _ ∧ _ ∧ _ ∧ Below w.heap.size w _›).2.2.2.2.2.2.2.2.2.2⟩

theorem viewMeets_walk (A : Option Addr) (c : Nat) (l : List Nat) (off r k ld : Int) (A' : Option Addr) (n' c' : Nat) (off' r' k' ld' : Int) (w : World) (hA : Row w A (f64s l)) (hfz : ∀ b o, A = some ⟨b, o, none⟩ → l ≠ [] → w.frozen? ⟨b, o, none⟩ = false)
    (ho : I64 off) (hr : I64 r) (hk : I64 k) (hi : I64 ld) (ho' : I64 off') (hr' : I64 r') (hk' : I64 k') (hi' : I64 ld') :
    Calls Try.prog 5 #[mat A l.length c off r k ld, mat A' n' c' off' r' k' ld'] w fun e w' => e = .returned (.bool true) ∧ Below w.heap.size w w' := by
  by_cases h : 1000 < l.length
  · exact viewMeets_long A _ c off r k ld A' n' c' off' r' k' ld' w h
  · exact viewMeets_rest A c l off r k ld A' n' c' off' r' k' ld' w hA hfz (by omega) ho hr hk hi ho' hr' hk' hi'
end Go.Proofs.Ytajmdjeidpfgkaa
