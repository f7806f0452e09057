/-
Equil: the document's Factors. Conditions: as each says.
-/
import Derived.Test.YtelpdbkkefpjhaaZFEqD
import Derived.Test.YtelpdbkkefpjhaaZFGrE
import Derived.Test.YtelpdbkkefpjhaaFNumF
import Derived.BigQuiet
set_option linter.unusedVariables false
set_option linter.unusedSimpArgs false
set_option linter.unnecessarySimpa false
namespace Go.Proofs.Ytelpdbkkefpjhaa
open Go.RowKit
attribute [local go_sem ↓] Go.wp_at_zero Go.wp_at_succ

/-- What the document's Factors answers. -/
def RfacR (X : Nat → Nat → Nat) (R C : Nat) (w : World) (e : Ending) (w' : World) : Prop :=
  (∃ A c B d, fAt X R C = 0 ∧ e = .returned (.tuple #[.slice A R c, .slice B C d, .int .i64 0]) ∧ Row w' A (i64s (cnt (rE X C) R)) ∧ Row w' B (i64s (cnt (cE X R C) C)) ∧ Below w.heap.size w w') ∨
  (∃ k : Nat, fAt X R C = k ∧ k ≠ 0 ∧ e = .returned (.tuple #[.slice none 0 0, .slice none 0 0, .int .i64 (k : Int)]) ∧ Below w.heap.size w w')
theorem neq_zero_t {x : Nat} (h : Fl.rung x = 0) : (FloatKind.f64.format.order x 0 != some .eq) = false := by rw [bne, eql_zero, decide_eq_true h]; rfl
theorem neq_zero_f {x : Nat} (h : ¬ Fl.rung x = 0) : (FloatKind.f64.format.order x 0 != some .eq) = true := by rw [bne, eql_zero, decide_eq_false h]; rfl
theorem eqtab_lt {i j R C : Nat} (hi : i < R) (hj : j < C) : i * C + j < R * C := by
  have h : i * C + C ≤ R * C := by
    have := Nat.mul_le_mul_right C (show i + 1 ≤ R by omega)
    rw [Nat.add_mul, Nat.one_mul] at this
    exact this
  omega
theorem eq_sum {a b : Int} (h1 : -1074 ≤ a ∧ a ≤ 1023) (h2 : -1074 ≤ b ∧ b ≤ 1074) : wrap64 (a + b) = a + b ∧ IntKind.i64.wrap (a + b) = a + b := ⟨wrap_id (by unfold I64; omega), wrapi (by omega) (by omega)⟩

set_option maxRecDepth 100000 in
set_option maxHeartbeats 8000000 in
theorem reqfactors_any (R C gT N cT : Nat) (T : List Nat) (w : World) (hT : Row w (some ⟨gT, 0, none⟩) (f64s T)) (hW : Wds T) (hTl : T.length = N) (hN : N < 1048576) (hRC : R * C = N) (hR : R ≤ 64) (hC : C ≤ 64) :
    Calls Try.prog 12 #[.agg #[.int .i64 R, .int .i64 C, .slice (some ⟨gT, 0, none⟩) N cT]] w (RfacR (fun i j => T.getD (i * C + j) 0) R C w) := by
  obtain ⟨i0, hi, hz0, hz1, hz2⟩ := ii0
  obtain ⟨X, hX⟩ : ∃ X, (fun i j => T.getD (i * C + j) 0) = X := ⟨_, rfl⟩
  have HTr := Lib.hid hT
  have HAt := Lib.hid (fun W (i j : Nat) (hi : i < R) (hj : j < C) (h : Row W (some ⟨gT, 0, none⟩) (f64s T)) => show Calls Try.prog 21 #[.agg #[.int .i64 R, .int .i64 C, .slice (some ⟨gT, 0, none⟩) N cT], .int .i64 (i : Int), .int .i64 (j : Int)] W fun e w' => e = .returned (.float .f64 (X i j)) ∧ Below W.heap.size W w' from by
    rw [← hX]
    exact rat8_any R C gT N cT T i j W h hTl hN (by rw [← hRC]; exact eqtab_lt hi hj))
  have HXl := Lib.hid (fun i j => show X i j < 18446744073709551616 by rw [← hX]; exact getD_wds hW _)
  have HEx := Lib.hid (fun W x (hx : x < 18446744073709551616) => rexp_any x W hx)
  have HRC := Lib.hid (And.intro hR hC)
  rw [hX]
  clear hT hW hTl hN hRC hX
  go_enter Try.func12, Try.ntmps12
  have HZ := Lib.hid (Blk.new w 32 #[.int .i64 R, .int .i64 C, .slice (some ⟨gT, 0, none⟩) N cT])
  have HB0 := Lib.hid ((Below.refl w.heap.size w).alloc (Nat.le_refl _) (.cells #[.int .i64 R, .int .i64 C, .slice (some ⟨gT, 0, none⟩) N cT] 32))
  have HTr1 := Lib.hid (HTr.out.below HB0.out)
  clear HTr
  go_wp2_with fail
  generalize hw1 : w.alloc (.cells #[.int .i64 R, .int .i64 C, .slice (some ⟨gT, 0, none⟩) N cT] 32) = w1 at *
  have Hz := Lib.hid (show w.heap.size < w1.heap.size from HZ.out.lt)
  clear hw1
  go_loopw [5, 7] (fun v a wr => ∃ q : Nat, q ≤ R ∧ a = .int .i64 q ∧ wr.ownsRow w1.heap.size 3 1 v q (i64s (cnt (rE X C) q)) ∧ Hid (fb (rG X C) q = 0) ∧ Below w1.heap.size w1 wr) (fun _ a _ => R - (intOf a).toNat)
  case atStart => exact ⟨0, Nat.zero_le _, rfl, World.ownsRow_nil _ _ _ _, Lib.hid rfl, Below.refl _ _⟩
  case round =>
    obtain ⟨q, hq, rfl, hown, HFb, hbl⟩ := hrel
    have HOw := Lib.hid hown
    have HBl := Lib.hid hbl
    clear hown hbl
    generalize wr = wa at *
    obtain ⟨t0, t1, t2⟩ := cells3v (HZ.out.below HBl.out HZ.out.lt)
    by_cases hlt : q < R
    · have hqc : (q : Int) < (R : Int) := by omega
      have hq1 : q + 1 ≤ 1048576 := by omega
      have hq2 := hlt
      go_wp2_with fail
      clear t0 t1 t2
      go_loopw [8, 9, 10] (fun m b a wr => ∃ (k : Nat) (M : Int) (bb : Bool), k ≤ C ∧ m = .int .i64 M ∧ b = .bool bb ∧ a = .int .i64 k ∧ Hid (gst (fun j => zB (X q j)) (fun j => expOf (X q j)) k = (M, bb)) ∧ Below wa.heap.size wa wr) (fun _ _ a _ => C - (intOf a).toNat)
      case atStart => exact ⟨0, 0, false, Nat.zero_le _, rfl, rfl, rfl, Lib.hid rfl, Below.refl _ _⟩
      case round =>
        obtain ⟨k, M, bb, hk, rfl, rfl, rfl, HG, hbk⟩ := hrel
        have HBk := Lib.hid hbk
        clear hbk
        obtain ⟨t0, t1, t2⟩ := cells3v (HZ.out.below (below_nx HBl.out HBk.out) HZ.out.lt)
        by_cases hkl : k < C
        · have hkc : (k : Int) < (C : Int) := by omega
          have hk1 : k + 1 ≤ 1048576 := by omega
          have hk2 := hkl
          go_wp2_with fail
          refine (HAt.out _ q k hq2 hk2 (HTr1.out.below (below_nx HBl.out HBk.out))).mono ?_
          rintro e w5 ⟨rfl, hb⟩
          have HB2 := Lib.hid (below_nx HBk.out hb)
          clear hb t0 t1 t2
          have HSq := Lib.hid (fun h => gst_skip (z := fun j => zB (X q j)) (s := fun j => expOf (X q j)) (k := k) h)
          have HFq := Lib.hid (fun h hg => gst_first (z := fun j => zB (X q j)) (s := fun j => expOf (X q j)) (k := k) (M := M) h hg)
          have HTq := Lib.hid (fun h hg hl => gst_take (z := fun j => zB (X q j)) (s := fun j => expOf (X q j)) (k := k) (M := M) h hg hl)
          have HKq := Lib.hid (fun h hg (hl : expOf (X q k) ≤ M) => gst_keep (z := fun j => zB (X q j)) (s := fun j => expOf (X q j)) (k := k) (M := M) h hg (Int.not_lt.2 hl))
          have HEq := Lib.hid (fun W => HEx.out W (X q k) (HXl.out _ _))
          obtain ⟨S, hS⟩ : ∃ S, expOf (X q k) = S := ⟨_, rfl⟩
          rw [hS] at HFq HTq HKq HEq
          clear hS
          obtain ⟨x, hx⟩ : ∃ x, X q k = x := ⟨_, rfl⟩
          rw [hx] at HSq HFq HTq HKq HEq
          rw [hx]
          clear hx
          by_cases hz : Fl.rung x = 0
          · have ht := neq_zero_t hz
            have HN := Lib.hid (HSq.out (decide_eq_true hz))
            clear hz
            go_wp2_with fail
            go_roundw
            case rel => exact ⟨k + 1, M, bb, by omega, rfl, rfl, by go_num, Lib.hid (HN.out.trans HG.out), HB2.out⟩
            case measure => simp [intOf]; omega
          · have ht := neq_zero_f hz
            have HZx := Lib.hid (show zB x = false from decide_eq_false hz)
            clear hz
            cases bb with
            | false =>
              have HN := Lib.hid (HFq.out HZx.out HG.out)
              go_wp2_with fail
              refine (HEq.out _).mono ?_
              rintro e w3 ⟨rfl, rfl⟩
              go_wp2_with fail
              go_roundw
              case rel => exact ⟨k + 1, S, true, by omega, rfl, rfl, by go_num, Lib.hid HN.out, HB2.out⟩
              case measure => simp [intOf]; omega
            | true =>
              by_cases hMS : M < S
              · have HN := Lib.hid (HTq.out HZx.out HG.out hMS)
                go_wp2_with fail
                refine (HEq.out _).mono ?_
                rintro e w3 ⟨rfl, rfl⟩
                go_wp2_with fail
                refine (HEq.out _).mono ?_
                rintro e w3 ⟨rfl, rfl⟩
                go_wp2_with fail
                go_roundw
                case rel => exact ⟨k + 1, S, true, by omega, rfl, rfl, by go_num, Lib.hid HN.out, HB2.out⟩
                case measure => simp [intOf]; omega
              · have HN := Lib.hid (HKq.out HZx.out HG.out (by omega))
                go_wp2_with fail
                refine (HEq.out _).mono ?_
                rintro e w3 ⟨rfl, rfl⟩
                go_wp2_with fail
                go_roundw
                case rel => exact ⟨k + 1, M, true, by omega, rfl, rfl, by go_num, Lib.hid HN.out, HB2.out⟩
                case measure => simp [intOf]; omega

        · obtain rfl : C = k := by omega
          have hkc : ¬ (C : Int) < (C : Int) := by omega
          have HGq := Lib.hid (show rG X C q = (M, bb) from HG.out)
          have HBa := Lib.hid (below_nx HBl.out HBk.out)
          have HOa := Lib.hid (owns_below HOw.out HBk.out)
          cases bb with
          | false =>
            have HF := Lib.hid (fb_stop HFb.out (by rw [HGq.out]) hlt)
            clear t0 t1 t2
            obtain ⟨t0, t1, t2⟩ := cells3v (HZ.out.below (below_nx HBl.out HBk.out) HZ.out.lt)
            have hwq := eq_wrap1 hq1
            go_wp2_with fail
            (try simp only [Exit.inBlock, Exit.then])
            refine bodyPost_ret (eq_res3 rfl _ _ _) rfl ?_
            exact .inr ⟨q + 1, by rw [fAt_row (by rw [HF.out]; omega), HF.out], by omega, by first | rfl | simp [hwq], below_nx HB0.out HBa.out⟩
          | true =>
            have HF := Lib.hid (fb_next HFb.out (by rw [HGq.out]))
            have HCn := Lib.hid (cnt_succ (rE X C) q)
            have hng : (rE X C) q = -M := by show -((rG X C) q).1 = -M; rw [HGq.out]
            obtain ⟨hw1, hw2⟩ := eq_wrap (m := M) (by have := rG_bound X C q; rw [HGq.out] at this; simp only at this; omega)
            rw [hng] at HCn
            have HNw := Lib.hid (Blk.new wr 3 #[.int .i64 (-M)])
            have HOw2 := Lib.hid (HOa.out.alloc (.cells #[.int .i64 (-M)] 3))
            have HBs := Lib.hid HBa.out.size
            clear hng
            go_wp2_with (at_builtin; refine wpList_append_own _ rfl _ _ 27 rfl w1.heap.size 3 i0 (.int .i64 0) 1 8 Try.underlying27 hi hz0 hz1 hz2 rfl (by decide) _ q (i64s (cnt (rE X C) q)) rfl HOw2.out ⟨wr.heap.size, 0, none⟩ 1 1 [.int .i64 (-M)] rfl rfl ?ca0 (by intro u hu; simp at hu; subst hu; rfl) ?c30 ?c40 ?c50 ?_)
            all_goals (try exact cell_one HNw.out)
            case c30 => unfold maxLen; omega
            case c40 => omega
            case c50 => have := HBs.out; (try simp); omega
            intro v' w' hown' hgrow _
            have HOw3 := Lib.hid (show w'.ownsRow w1.heap.size 3 1 v' (q + 1) (i64s (cnt (rE X C) (q + 1))) from by
              rw [HCn.out, i64s_snoc]
              exact hown')
            have HBl3 := Lib.hid ((HBa.out.alloc HBa.out.size (.cells #[.int .i64 (-M)] 3)).grown hgrow (by simp; have := HBs.out; omega) (fun k hk => by have := (HOw2.out.lt k hk).1; omega))
            clear hown' hgrow t0 t1 t2
            go_wp2_with fail
            go_roundw
            case rel => exact ⟨q + 1, by omega, by go_num, HOw3.out, Lib.hid HF.out, HBl3.out⟩
            case measure => simp [intOf]; omega

    · obtain rfl : R = q := by omega
      have hqc : ¬ (R : Int) < (R : Int) := by omega
      obtain ⟨A1, c1, rfl, hrow, hlo⟩ := own_rowi HOw.out (by rw [cnt_length])
      have HRw := Lib.hid (And.intro hrow HFb.out)
      have HW2 := Lib.hid HBl.out
      go_wp2_with fail
      generalize wa = w2 at *
      clear HBl HOw hrow hlo t0 t1 t2 HFb hqc hlt hq
      go_loopw [6, 12] (fun v a wr => ∃ q : Nat, q ≤ C ∧ a = .int .i64 q ∧ wr.ownsRow w2.heap.size 3 1 v q (i64s (cnt (cE X R C) q)) ∧ Hid (fb (cG X R (rE X C)) q = 0) ∧ Below w2.heap.size w2 wr) (fun _ a _ => C - (intOf a).toNat)
      case atStart => exact ⟨0, Nat.zero_le _, rfl, World.ownsRow_nil _ _ _ _, Lib.hid rfl, Below.refl _ _⟩
      case round =>
        obtain ⟨q, hq, rfl, hown, HFb, hbl⟩ := hrel
        have HOw := Lib.hid hown
        have HBl := Lib.hid hbl
        clear hown hbl
        generalize wr = wa at *
        obtain ⟨t0, t1, t2⟩ := cells3v (HZ.out.below (below_nx HW2.out HBl.out) HZ.out.lt)
        by_cases hlt : q < C
        · have hqc : (q : Int) < (C : Int) := by omega
          have hq1 : q + 1 ≤ 1048576 := by omega
          have hq2 := hlt
          go_wp2_with fail
          clear t0 t1 t2
          go_loopw [13, 14, 15] (fun m b a wr => ∃ (k : Nat) (M : Int) (bb : Bool), k ≤ R ∧ m = .int .i64 M ∧ b = .bool bb ∧ a = .int .i64 k ∧ Hid (gst (fun i => zB (X i q)) (fun i => expOf (X i q) + rE X C i) k = (M, bb)) ∧ Below wa.heap.size wa wr) (fun _ _ a _ => R - (intOf a).toNat)
          case atStart => exact ⟨0, 0, false, Nat.zero_le _, rfl, rfl, rfl, Lib.hid rfl, Below.refl _ _⟩
          case round =>
            obtain ⟨k, M, bb, hk, rfl, rfl, rfl, HG, hbk⟩ := hrel
            have HBk := Lib.hid hbk
            clear hbk
            obtain ⟨t0, t1, t2⟩ := cells3v (HZ.out.below (below_nx HW2.out (below_nx HBl.out HBk.out)) HZ.out.lt)
            by_cases hkl : k < R
            · have hkc : (k : Int) < (R : Int) := by omega
              have hk1 : k + 1 ≤ 1048576 := by omega
              have hk2 := hkl
              go_wp2_with fail
              refine (HAt.out _ k q hk2 hq2 (HTr1.out.below (below_nx HW2.out (below_nx HBl.out HBk.out)))).mono ?_
              rintro e w5 ⟨rfl, hb⟩
              have HB2 := Lib.hid (below_nx HBk.out hb)
              clear hb t0 t1 t2
              have hgt := i64s_get (cnt (rE X C) R) k (by rw [cnt_length]; exact hk2)
              have hgi : (cnt (rE X C) R)[k]'(by rw [cnt_length]; exact hk2) = rE X C k := by simp [cnt]
              rw [hgi] at hgt
              obtain ⟨br, r0, hA1e, _, hcell0⟩ := HRw.out.1.at_ hgt
              have hcr := cell_below hcell0 (below_nx HBl.out HB2.out)
              obtain ⟨hs1, hs2⟩ := eq_sum (expOf_bounds (X k q)) (rE_bound X C k)
              subst hA1e
              have HSq := Lib.hid (fun h => gst_skip (z := fun i => zB (X i q)) (s := fun i => expOf (X i q) + rE X C i) (k := k) h)
              have HFq := Lib.hid (fun h hg => gst_first (z := fun i => zB (X i q)) (s := fun i => expOf (X i q) + rE X C i) (k := k) (M := M) h hg)
              have HTq := Lib.hid (fun h hg hl => gst_take (z := fun i => zB (X i q)) (s := fun i => expOf (X i q) + rE X C i) (k := k) (M := M) h hg hl)
              have HKq := Lib.hid (fun h hg (hl : expOf (X k q) + rE X C k ≤ M) => gst_keep (z := fun i => zB (X i q)) (s := fun i => expOf (X i q) + rE X C i) (k := k) (M := M) h hg (Int.not_lt.2 hl))
              have HEq := Lib.hid (fun W => HEx.out W (X k q) (HXl.out _ _))
              obtain ⟨E0, hE0⟩ : ∃ E0, expOf (X k q) = E0 := ⟨_, rfl⟩
              obtain ⟨K0, hK0⟩ : ∃ K0, rE X C k = K0 := ⟨_, rfl⟩
              obtain ⟨S, hS⟩ : ∃ S, E0 + K0 = S := ⟨_, rfl⟩
              rw [hE0, hK0] at hs1 hs2 HFq HTq HKq
              rw [hK0] at hcr
              rw [hE0] at HEq
              rw [hS] at hs1 hs2 HFq HTq HKq
              have hkR : (k : Int) < (R : Int) := by omega
              have hk0 : (0 : Int) ≤ (k : Int) := by omega
              clear hgt hgi hcell0 hE0 hK0
              obtain ⟨x, hx⟩ : ∃ x, X k q = x := ⟨_, rfl⟩
              rw [hx] at HSq HFq HTq HKq HEq
              rw [hx]
              clear hx
              by_cases hz : Fl.rung x = 0
              · have ht := neq_zero_t hz
                have HN := Lib.hid (HSq.out (decide_eq_true hz))
                clear hz
                go_wp2_with fail
                go_quiet ((go_at_call 36; exact Calls.quiet_of_same ((HEq.out _).mono fun _ _ h => ⟨h.1, h.2.symm⟩)))
                go_wp2_with fail
                go_roundw
                case rel => exact ⟨k + 1, M, bb, by omega, rfl, rfl, by go_num, Lib.hid (HN.out.trans HG.out), below_drewN HB2.out _⟩
                case measure => simp [intOf]; omega
              · have ht := neq_zero_f hz
                have HZx := Lib.hid (show zB x = false from decide_eq_false hz)
                clear hz
                cases bb with
                | false =>
                  have HN := Lib.hid (HFq.out HZx.out HG.out)
                  go_wp2_with fail
                  go_quiet ((go_at_call 36; exact Calls.quiet_of_same ((HEq.out _).mono fun _ _ h => ⟨h.1, h.2.symm⟩)))
                  go_wp2_with fail
                  have HBd := Lib.hid (below_drewN HB2.out nq)
                  have hcr2 := cell_below hcr (below_drewN (Below.refl w5.heap.size w5) nq)
                  clear hcr
                  generalize w5.drewN nq = w6 at *
                  go_quiet ((go_at_call 36; exact Calls.quiet_of_same ((HEq.out _).mono fun _ _ h => ⟨h.1, h.2.symm⟩)))
                  go_wp2_with fail
                  go_roundw
                  case rel => exact ⟨k + 1, S, true, by omega, rfl, rfl, by go_num, Lib.hid HN.out, below_drewN HBd.out _⟩
                  case measure => simp [intOf]; omega
                | true =>
                  by_cases hMS : M < S
                  · have HN := Lib.hid (HTq.out HZx.out HG.out hMS)
                    go_wp2_with fail
                    go_quiet ((go_at_call 36; exact Calls.quiet_of_same ((HEq.out _).mono fun _ _ h => ⟨h.1, h.2.symm⟩)))
                    go_wp2_with fail
                    have HBd := Lib.hid (below_drewN HB2.out nq)
                    have hcr2 := cell_below hcr (below_drewN (Below.refl w5.heap.size w5) nq)
                    clear hcr
                    generalize w5.drewN nq = w6 at *
                    go_quiet ((go_at_call 36; exact Calls.quiet_of_same ((HEq.out _).mono fun _ _ h => ⟨h.1, h.2.symm⟩)))
                    go_wp2_with fail
                    go_roundw
                    case rel => exact ⟨k + 1, S, true, by omega, rfl, rfl, by go_num, Lib.hid HN.out, below_drewN HBd.out _⟩
                    case measure => simp [intOf]; omega
                  · have HN := Lib.hid (HKq.out HZx.out HG.out (by omega))
                    go_wp2_with fail
                    go_quiet ((go_at_call 36; exact Calls.quiet_of_same ((HEq.out _).mono fun _ _ h => ⟨h.1, h.2.symm⟩)))
                    go_wp2_with fail
                    go_roundw
                    case rel => exact ⟨k + 1, M, true, by omega, rfl, rfl, by go_num, Lib.hid HN.out, below_drewN HB2.out _⟩
                    case measure => simp [intOf]; omega

            · obtain rfl : R = k := by omega
              have hkc : ¬ (R : Int) < (R : Int) := by omega
              have HGq := Lib.hid (show cG X R (rE X C) q = (M, bb) from HG.out)
              have HBa := Lib.hid (below_nx HBl.out HBk.out)
              have HOa := Lib.hid (owns_below HOw.out HBk.out)
              cases bb with
              | false =>
                have HF := Lib.hid (fb_stop HFb.out (by rw [HGq.out]) hlt)
                clear t0 t1 t2
                obtain ⟨t0, t1, t2⟩ := cells3v (HZ.out.below (below_nx HW2.out (below_nx HBl.out HBk.out)) HZ.out.lt)
                obtain ⟨K1, hK1⟩ : ∃ K1, R + q = K1 := ⟨_, rfl⟩
                obtain ⟨K2, hK2⟩ : ∃ K2, K1 + 1 = K2 := ⟨_, rfl⟩
                obtain ⟨hw1, hw2, hw3⟩ := wrap_at (R := R) (k := q) HRC.out.1 (by have := HRC.out.2; omega) hK1
                have hw4 : (K1 : Int) + 1 = (K2 : Int) := by omega
                have hw5 : wrap64 (K2 : Int) = (K2 : Int) := wrap_id (by have := HRC.out; unfold I64; omega)
                have hw6 : IntKind.i64.wrap (K2 : Int) = (K2 : Int) := wrapi (by omega) (by have := HRC.out; omega)
                have HK := Lib.hid (show R + (q + 1) = K2 ∧ K2 ≠ 0 by omega)
                clear hK1 hK2
                obtain ⟨t0, t1, t2⟩ := cells3v (HZ.out.below (below_nx HW2.out HBa.out) HZ.out.lt)
                go_wp2_with fail
                go_quiet (fail)
                go_wp2_with fail
                (try simp only [Exit.inBlock, Exit.then])
                refine bodyPost_ret (eq_res3 rfl _ _ _) rfl ?_
                exact .inr ⟨K2, by rw [fAt_col HRw.out.2 (by rw [HF.out]; omega), HF.out]; exact HK.out.1, HK.out.2, rfl, below_drewN (below_nx HB0.out (below_nx HW2.out HBa.out)) _⟩
              | true =>
                have HF := Lib.hid (fb_next HFb.out (by rw [HGq.out]))
                have HCn := Lib.hid (cnt_succ (cE X R C) q)
                have hng : (cE X R C) q = -M := by show -((cG X R (rE X C)) q).1 = -M; rw [HGq.out]
                obtain ⟨hw1, hw2⟩ := eq_wrap (m := M) (by have := cG_bound X R (rE X C) q (fun i _ => rE_bound X C i); rw [HGq.out] at this; simp only at this; omega)
                rw [hng] at HCn
                have HNw := Lib.hid (Blk.new wr 3 #[.int .i64 (-M)])
                have HOw2 := Lib.hid (HOa.out.alloc (.cells #[.int .i64 (-M)] 3))
                have HBs := Lib.hid HBa.out.size
                clear hng
                go_wp2_with (at_builtin; refine wpList_append_own _ rfl _ _ 27 rfl w2.heap.size 3 i0 (.int .i64 0) 1 8 Try.underlying27 hi hz0 hz1 hz2 rfl (by decide) _ q (i64s (cnt (cE X R C) q)) rfl HOw2.out ⟨wr.heap.size, 0, none⟩ 1 1 [.int .i64 (-M)] rfl rfl ?ca1 (by intro u hu; simp at hu; subst hu; rfl) ?c31 ?c41 ?c51 ?_)
                all_goals (try exact cell_one HNw.out)
                case c31 => unfold maxLen; omega
                case c41 => omega
                case c51 => have := HBs.out; (try simp); omega
                intro v' w' hown' hgrow _
                have HOw3 := Lib.hid (show w'.ownsRow w2.heap.size 3 1 v' (q + 1) (i64s (cnt (cE X R C) (q + 1))) from by
                  rw [HCn.out, i64s_snoc]
                  exact hown')
                have HBl3 := Lib.hid ((HBa.out.alloc HBa.out.size (.cells #[.int .i64 (-M)] 3)).grown hgrow (by simp; have := HBs.out; omega) (fun k hk => by have := (HOw2.out.lt k hk).1; omega))
                clear hown' hgrow t0 t1 t2
                go_wp2_with fail
                go_roundw
                case rel => exact ⟨q + 1, by omega, by go_num, HOw3.out, Lib.hid HF.out, HBl3.out⟩
                case measure => simp [intOf]; omega

        · obtain rfl : C = q := by omega
          have hqc : ¬ (C : Int) < (C : Int) := by omega
          obtain ⟨A2, c2, rfl, hrow, hlo⟩ := own_rowi HOw.out (by rw [cnt_length])
          have HR2 := Lib.hid hrow
          have HRa := Lib.hid (HRw.out.1.below HBl.out)
          clear hrow hlo
          go_wp2_with fail
          (try simp only [Exit.inBlock, Exit.then])
          refine bodyPost_ret (eq_res3 rfl _ _ _) rfl ?_
          exact .inl ⟨A1, c1, A2, c2, fAt_none HRw.out.2 HFb.out, rfl, HRa.out, HR2.out, below_nx HB0.out (below_nx HW2.out HBl.out)⟩
end Go.Proofs.Ytelpdbkkefpjhaa
