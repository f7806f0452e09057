/-
Parts and rows of a matrix. Conditions: the numbers are of an int's range.
-/
import Derived.Test.YtelpdbkkefpjhaaZKMvD
import Derived.BigRegion
set_option linter.unusedVariables false
namespace Go.Proofs.Ytelpdbkkefpjhaa
open Go.RowKit
attribute [local go_sem ↓] Go.wp_at_zero Go.wp_at_succ

theorem below_sets4 {B g : Nat} {a w : World} (h : Below B a w) (hg : B ≤ g) (x0 x1 x2 x3 : Value) : Below B a ((((w.setCell ⟨g, 0, none⟩ x0).setCell ⟨g, 1, none⟩ x1).setCell ⟨g, 2, none⟩ x2).setCell ⟨g, 3, none⟩ x3) :=
  (((h.setCell (p := ⟨g, 0, none⟩) hg x0).setCell (p := ⟨g, 1, none⟩) hg x1).setCell (p := ⟨g, 2, none⟩) hg x2).setCell (p := ⟨g, 3, none⟩) hg x3
theorem below_sets5 {B g : Nat} {a w : World} (h : Below B a w) (hg : B ≤ g) (x0 x1 x2 x3 x4 : Value) : Below B a (((((w.setCell ⟨g, 0, none⟩ x0).setCell ⟨g, 1, none⟩ x1).setCell ⟨g, 2, none⟩ x2).setCell ⟨g, 3, none⟩ x3).setCell ⟨g, 4, none⟩ x4) :=
  (below_sets4 h hg x0 x1 x2 x3).setCell (p := ⟨g, 4, none⟩) hg x4
@[go_sem] theorem run_field_Off (A : Option Addr) (n c : Nat) (off r k ld : Int) (w : World) :
    (Instr.field 24 (.agg #[.slice A n c, .int .i64 off, .int .i64 r, .int .i64 k, .int .i64 ld]) 1).run Try.prog w = .ok (.int .i64 off) w := by kernel_rfl

/-- Are n places from i on among all? -/
def fitsB (i n all : Int) : Bool := decide (0 ≤ i ∧ 0 ≤ n ∧ n ≤ all - i)
theorem fits_any (i n all : Int) (w : World) (hi : I64 i) (hn : I64 n) (ha : 0 ≤ all ∧ all < 9223372036854775808) :
    Calls Try.prog 56 #[.int .i64 i, .int .i64 n, .int .i64 all] w fun e w' => e = .returned (.bool (fitsB i n all)) ∧ w = w' := by
  unfold I64 at hi hn
  by_cases h1 : 0 ≤ i
  · have u1 : wrap64 (all - i) = all - i := by unfold wrap64; omega
    by_cases h2 : 0 ≤ n
    · have hv : fitsB i n all = decide (n ≤ all - i) := decide_eq_decide.2 (by omega)
      rw [hv]
      go_enter Try.func56, Try.ntmps56
      go_wp2
      all_goals
        go_ret
        exact ⟨ret_bool (by simp), rfl⟩
    · have hv : fitsB i n all = false := decide_eq_false (by omega)
      rw [hv]
      have d2 : decide (0 ≤ n) = false := by simp; omega
      go_enter Try.func56, Try.ntmps56
      go_wp2
      all_goals
        go_ret
        exact ⟨ret_bool (by simp), rfl⟩
  · have hv : fitsB i n all = false := decide_eq_false (by omega)
    rw [hv]
    have d1 : decide (0 ≤ i) = false := by simp; omega
    go_enter Try.func56, Try.ntmps56
    go_wp2
    all_goals
      go_ret
      exact ⟨ret_bool (by simp), rfl⟩

/-- There is such a part. -/
def partB (n : Nat) (off r k ld i j rows cols : Int) : Bool := matB n off r k ld && fitsB i rows r && fitsB j cols k
/-- Where a part begins. -/
def partOff (off ld i j rows cols : Int) : Int := if rows = 0 ∨ cols = 0 then off else off + i + j * ld
theorem part_some (A : Option Addr) (n c : Nat) (off r k ld i j rows cols : Int) (w : World) (hn : n < 9223372036854775808) (ho : I64 off) (hr : I64 r) (hk : I64 k) (hi : I64 ld) (h1 : I64 i) (h2 : I64 j) (h3 : I64 rows) (h4 : I64 cols) (h : partB n off r k ld i j rows cols = true) :
    Calls Try.prog 27 #[mat A n c off r k ld, .int .i64 i, .int .i64 j, .int .i64 rows, .int .i64 cols] w fun e w' => e = .returned (mat A n c (partOff off ld i j rows cols) rows cols ld) ∧ Below w.heap.size w w' := by
  unfold partB at h
  simp only [Bool.and_eq_true] at h
  obtain ⟨⟨g1, g2⟩, g3⟩ := h
  have q1 := of_decide_eq_true g1
  have q2 := of_decide_eq_true g2
  have q3 := of_decide_eq_true g3
  have hr' := hr
  have hk' := hk
  unfold I64 at hr' hk'
  have HG := Lib.hid (fun W => good_any A n c off r k ld W hn ho hr hk hi)
  have HF1 := Lib.hid (fun W => fits_any i rows r W h1 h3 (by omega))
  have HF2 := Lib.hid (fun W => fits_any j cols k W h2 h4 (by omega))
  have HN := Lib.hid (fun W => none_any A n c off rows cols ld W)
  rw [g1] at HG
  rw [g2] at HF1
  rw [g3] at HF2
  obtain ⟨p, hp⟩ : ∃ p, partOff off ld i j rows cols = p := ⟨_, rfl⟩
  have HPl := Lib.hid (fun W (hz : (rows == 0 || cols == 0) = false) => place_any A n c off r k ld i j p W (by rw [← hp]; unfold partOff; rw [if_neg (by simpa using hz)]) (by
      have : ¬ (rows = 0 ∨ cols = 0) := by simpa using hz
      have e : j * ld ≤ (k - 1) * ld := Int.mul_le_mul_of_nonneg_right (by omega) (by omega)
      have e0 : 0 ≤ j * ld := Int.mul_nonneg (by omega) (by omega)
      unfold I64 at *; omega) (by
      have : ¬ (rows = 0 ∨ cols = 0) := by simpa using hz
      have e : j * ld ≤ (k - 1) * ld := Int.mul_le_mul_of_nonneg_right (by omega) (by omega)
      have e0 : 0 ≤ j * ld := Int.mul_nonneg (by omega) (by omega)
      unfold I64 at *; omega) (by
      have : ¬ (rows = 0 ∨ cols = 0) := by simpa using hz
      have e : j * ld ≤ (k - 1) * ld := Int.mul_le_mul_of_nonneg_right (by omega) (by omega)
      have e0 : 0 ≤ j * ld := Int.mul_nonneg (by omega) (by omega)
      rw [← hp]; unfold partOff; rw [if_neg this]
      unfold I64 at *; omega))
  have HPo := Lib.hid (fun (hz : (rows == 0 || cols == 0) = true) => show p = off by rw [← hp]; unfold partOff; rw [if_pos (by simpa using hz)])
  rw [hp]
  generalize (rows == 0 || cols == 0) = x at *
  clear hn ho hr hk hi h1 h2 h3 h4 g1 g2 g3 q1 q2 q3 hr' hk' hp
  unfold mat at *
  go_enter Try.func27, Try.ntmps27
  have HZ0 := Lib.hid ((Blk.new w 24 #[.slice A n c, .int .i64 off, .int .i64 r, .int .i64 k, .int .i64 ld]).alloc (.cells #[.slice none 0 0, .int .i64 0, .int .i64 0, .int .i64 0, .int .i64 0] 24))
  have HZ1 := Lib.hid (Blk.new_ (w.alloc (.cells #[.slice A n c, .int .i64 off, .int .i64 r, .int .i64 k, .int .i64 ld] 24)) 24 #[.slice none 0 0, .int .i64 0, .int .i64 0, .int .i64 0, .int .i64 0] (w.heap.size + 1) (by simp))
  have HB0 := Lib.hid (((Below.refl w.heap.size w).alloc (Nat.le_refl _) (.cells #[.slice A n c, .int .i64 off, .int .i64 r, .int .i64 k, .int .i64 ld] 24)).alloc (by simp) (.cells #[.slice none 0 0, .int .i64 0, .int .i64 0, .int .i64 0, .int .i64 0] 24))
  go_wp2_with fail
  refine (HG.out _).mono ?_
  rintro e w1 ⟨rfl, hb⟩
  have HZ2 := Lib.hid (HZ0.out.nxt hb)
  have HZ3 := Lib.hid (HZ1.out.nxt hb)
  have HB1 := Lib.hid (HB0.out.trans (hb.mono HB0.out.size))
  clear hb
  obtain ⟨c0, c1, c2, c3, c4⟩ := cells5 HZ2.out
  go_wp2_with fail
  refine (HF1.out _).mono ?_
  rintro e w2 ⟨rfl, rfl⟩
  go_wp2_with fail
  refine (HF2.out _).mono ?_
  rintro e w2 ⟨rfl, rfl⟩
  go_wp2_with fail
  refine (HN.out _).mono ?_
  rintro e w2 ⟨rfl, hb⟩
  have HZ4 := Lib.hid ((HZ2.out.alloc (.cells #[.slice A n c, .int .i64 off, .int .i64 rows, .int .i64 cols, .int .i64 ld] 24)).nxt hb)
  have HZ5 := Lib.hid ((HZ3.out.alloc (.cells #[.slice A n c, .int .i64 off, .int .i64 rows, .int .i64 cols, .int .i64 ld] 24)).nxt hb)
  have HZ6 := Lib.hid ((Blk.new w1 24 #[.slice A n c, .int .i64 off, .int .i64 rows, .int .i64 cols, .int .i64 ld]).nxt hb)
  have hb2 := HB1.out.alloc HB1.out.size (.cells #[.slice A n c, .int .i64 off, .int .i64 rows, .int .i64 cols, .int .i64 ld] 24)
  have HB2 := Lib.hid (hb2.trans (hb.mono hb2.size))
  have hq : w.heap.size + 1 < w1.heap.size := HZ3.out.lt
  clear hb hb2 c0 c1 c2 c3 c4
  generalize hz : w1.heap.size = q at *
  clear hz
  obtain ⟨c0, c1, c2, c3, c4⟩ := cells5 HZ4.out
  obtain ⟨d0, d1, d2, d3, d4⟩ := cells5 HZ5.out
  obtain ⟨f0, f1, f2, f3, f4⟩ := frozen5 HZ5.out
  obtain ⟨a0, a1, a2, a3, a4⟩ := cells5 HZ6.out
  obtain ⟨x0, x1, x2, x3, x4⟩ := frozen5 HZ6.out
  cases x
  · have HPl2 := Lib.hid (fun W => HPl.out W (by trivial))
    clear HPl HPo
    go_wp2_with fail
    refine (HPl2.out _).mono ?_
    rintro e w3 ⟨rfl, hb⟩
    clear c0 c1 c2 c3 c4 d0 d1 d2 d3 d4 f0 f1 f2 f3 f4 a0 a1 a2 a3 a4 x0 x1 x2 x3 x4
    have HZ7 := Lib.hid (HZ5.out.nxt hb)
    have HZ8 := Lib.hid (HZ6.out.nxt hb)
    have HB3 := Lib.hid (HB2.out.trans (hb.mono HB2.out.size))
    clear hb
    have hz9 : Blk (w3.setCell ⟨q, 1, none⟩ (.int .i64 p)) q 24 #[.slice A n c, .int .i64 p, .int .i64 rows, .int .i64 cols, .int .i64 ld] := by simpa using HZ8.out.set_ 1 (.int .i64 p)
    have HZ9 := Lib.hid hz9
    have HZ10 := Lib.hid (HZ7.out.other (p := ⟨q, 1, none⟩) (by show _ ≠ q; omega) (.int .i64 p))
    have HB4 := Lib.hid (HB3.out.setCell (p := ⟨q, 1, none⟩) (by show _ ≤ q; omega) (.int .i64 p))
    obtain ⟨a0, a1, a2, a3, a4⟩ := cells5 HZ8.out
    obtain ⟨x0, x1, x2, x3, x4⟩ := frozen5 HZ8.out
    go_upto_region 6 with fail
    generalize w3.setCell ⟨q, 1, none⟩ (.int .i64 p) = W9 at *
    clear a0 a1 a2 a3 a4 x0 x1 x2 x3 x4
    obtain ⟨a0, a1, a2, a3, a4⟩ := cells5 HZ9.out
    obtain ⟨d0, d1, d2, d3, d4⟩ := cells5 HZ10.out
    obtain ⟨f0, f1, f2, f3, f4⟩ := frozen5 HZ10.out
    have HSt := Lib.hid (HZ10.out.store5 (.slice A n c) (.int .i64 p) (.int .i64 rows) (.int .i64 cols) (.int .i64 ld))
    have HBe := Lib.hid (below_sets5 HB4.out (show w.heap.size ≤ w.heap.size + 1 by omega) (.slice A n c) (.int .i64 p) (.int .i64 rows) (.int .i64 cols) (.int .i64 ld))
    go_wp2_with fail
    obtain ⟨j0, j1, j2, j3, j4⟩ := cells5 HSt.out
    exact bodyPost_ret (v := mat A n c p rows cols ld) (by simp [results, Try.results27, go_sem, j0, j1, j2, j3, j4, mat]) rfl ⟨rfl, HBe.out⟩
  · obtain rfl := HPo.out (by trivial)
    clear HPl HPo
    have HSt := Lib.hid (HZ5.out.store5 (.slice A n c) (.int .i64 p) (.int .i64 rows) (.int .i64 cols) (.int .i64 ld))
    have HBe := Lib.hid (below_sets5 HB2.out (show w.heap.size ≤ w.heap.size + 1 by omega) (.slice A n c) (.int .i64 p) (.int .i64 rows) (.int .i64 cols) (.int .i64 ld))
    go_wp2_with fail
    obtain ⟨j0, j1, j2, j3, j4⟩ := cells5 HSt.out
    exact bodyPost_ret (v := mat A n c p rows cols ld) (by simp [results, Try.results27, go_sem, j0, j1, j2, j3, j4, mat]) rfl ⟨rfl, HBe.out⟩

end Go.Proofs.Ytelpdbkkefpjhaa
