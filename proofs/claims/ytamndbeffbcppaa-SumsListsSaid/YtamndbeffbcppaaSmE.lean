/-
The example; Dot's errors. Conditions: as each says.
-/
import Derived.Test.YtamndbeffbcppaaSmD
import Derived.Test.YtamndbeffbcppaaMvO
set_option linter.unusedVariables false
set_option linter.unusedSimpArgs false
namespace Go.Proofs.Ytamndbeffbcppaa
open Go.RowKit
attribute [local go_sem ↓] Go.wp_at_zero Go.wp_at_succ

/-- Why there is no sum of products. -/
def dotI (n : Nat) (off k inc : Int) (n' : Nat) (off' k' inc' : Int) : Int := if (vecB n off k inc && vecB n' off' k' inc') = true then (if k = k' then 0 else 3) else 1
theorem dot_err (A A' : Option Addr) (n c : Nat) (off k inc : Int) (n' c' : Nat) (off' k' inc' : Int) (w : World) (hn : n < 9223372036854775808) (hn' : n' < 9223372036854775808) (ho : I64 off) (hk : I64 k) (hi : I64 inc) (ho' : I64 off') (hk' : I64 k') (hi' : I64 inc') (P : Int) (hP : dotI n off k inc n' off' k' inc' = P) (hP0 : P ≠ 0) :
    Calls Try.prog 25 #[vec A n c off k inc, vec A' n' c' off' k' inc'] w fun e w' => e = .returned (.tuple #[.float .f64 0, .int .i64 P]) ∧ Below w.heap.size w w' := by
  have HRi := Lib.hid (fun W => right_any A n c off k inc W hn ho hk hi)
  have HRi' := Lib.hid (fun W => right_any A' n' c' off' k' inc' W hn' ho' hk' hi')
  unfold dotI at hP
  clear hn hn' ho hk hi ho' hk' hi'
  generalize vecB n off k inc = x at *
  generalize vecB n' off' k' inc' = y at *
  unfold vec at *
  have Ha0 := Lib.hid ((Blk.new w 45 #[.slice A n c, .int .i64 off, .int .i64 k, .int .i64 inc]).alloc (.cells #[.slice A' n' c', .int .i64 off', .int .i64 k', .int .i64 inc'] 45))
  have Hb0 := Lib.hid (Blk.new_ (w.alloc (.cells #[.slice A n c, .int .i64 off, .int .i64 k, .int .i64 inc] 45)) 45 #[.slice A' n' c', .int .i64 off', .int .i64 k', .int .i64 inc'] (w.heap.size + 1) (by simp))
  have HB0 := Lib.hid (((Below.refl w.heap.size w).alloc (Nat.le_refl _) (.cells #[.slice A n c, .int .i64 off, .int .i64 k, .int .i64 inc] 45)).alloc (by simp) (.cells #[.slice A' n' c', .int .i64 off', .int .i64 k', .int .i64 inc'] 45))
  cases x
  · obtain rfl : P = 1 := by simpa using hP.symm
    clear hP hP0
    go_enter Try.func25, Try.ntmps25
    go_wp2_with fail
    refine (HRi.out _).mono ?_
    rintro e w1 ⟨rfl, hb⟩
    have HB1 := Lib.hid (below_nx HB0.out hb)
    clear hb
    go_wp2_with fail
    go_ret2
    exact ⟨rfl, HB1.out⟩
  · cases y
    · obtain rfl : P = 1 := by simpa using hP.symm
      clear hP hP0
      go_enter Try.func25, Try.ntmps25
      go_wp2_with fail
      refine (HRi.out _).mono ?_
      rintro e w1 ⟨rfl, hb⟩
      have Hb1 := Lib.hid (Hb0.out.nxt hb)
      have HB1 := Lib.hid (below_nx HB0.out hb)
      clear hb
      obtain ⟨b0, b1, b2, b3⟩ := cells4w Hb1.out
      go_wp2_with fail
      refine (HRi'.out _).mono ?_
      rintro e w2 ⟨rfl, hb⟩
      have HB2 := Lib.hid (below_nx HB1.out hb)
      clear hb b0 b1 b2 b3
      go_wp2_with fail
      go_ret2
      exact ⟨rfl, HB2.out⟩
    · have hkk : k ≠ k' := by
        intro e
        simp [e] at hP
        omega
      obtain rfl : P = 3 := by simp [hkk] at hP; omega
      have hkn : (k == k') = false := by simp [hkk]
      have hkn2 : (k != k') = true := by simp [hkk]
      clear hP hP0 hkk
      go_enter Try.func25, Try.ntmps25
      go_wp2_with fail
      refine (HRi.out _).mono ?_
      rintro e w1 ⟨rfl, hb⟩
      have Ha1 := Lib.hid (Ha0.out.nxt hb)
      have Hb1 := Lib.hid (Hb0.out.nxt hb)
      have HB1 := Lib.hid (below_nx HB0.out hb)
      clear hb
      obtain ⟨b0, b1, b2, b3⟩ := cells4w Hb1.out
      go_wp2_with fail
      refine (HRi'.out _).mono ?_
      rintro e w2 ⟨rfl, hb⟩
      have Ha2 := Lib.hid (Ha1.out.nxt hb)
      have Hb2 := Lib.hid (Hb1.out.nxt hb)
      have HB2 := Lib.hid (below_nx HB1.out hb)
      clear hb b0 b1 b2 b3
      obtain ⟨a0, a1, a2, a3⟩ := cells4w Ha2.out
      obtain ⟨b0, b1, b2, b3⟩ := cells4w Hb2.out
      go_wp2_with fail
      go_ret2
      exact ⟨rfl, HB2.out⟩

/-- 1, 2, 3. -/
def ex1 : List Nat := [4607182418800017408, 4611686018427387904, 4613937818241073152]
/-- 4, 5, 6. -/
def ex2 : List Nat := [4616189618054758400, 4617315517961601024, 4618441417868443648]
theorem ex_most : mostI (lst ex1 0 1 3) = 2 := by decide +kernel
theorem ex_dot : dotF (lst ex1 0 1 3) (lst ex2 0 1 3) 3 = 4629700416936869888 := by decide +kernel
theorem ex_eq : (FloatKind.f64.format.order 4629700416936869888 4629700416936869888 == some .eq) = true := by decide +kernel
theorem ex1_wds : Wds ex1 := by intro b hb; simp [ex1] at hb; omega
theorem ex2_wds : Wds ex2 := by intro b hb; simp [ex2] at hb; omega
set_option maxRecDepth 100000 in
theorem awake5_any (w : World) : Calls Try.prog 22 #[] w fun e w' => e = .returned (.bool true) ∧ Below w.heap.size w w' := by
  have HMo := Lib.hid (fun (A : Option Addr) (W : World) (h : Row W A (f64s ex1)) => show Calls Try.prog 27 #[.agg #[.slice A 3 3, .int .i64 0, .int .i64 3, .int .i64 1]] W fun e w' => e = .returned (.tuple #[.int .i64 2, .int .i64 0]) ∧ Below W.heap.size W w' from by
    have := most_ok A 3 3 ex1 0 3 1 W h ex1_wds rfl (by omega) (by omega) (by omega) (by decide) (by unfold I64; omega) (by unfold I64; omega)
    rw [ex_most] at this; exact this)
  have HDt := Lib.hid (fun (A B : Option Addr) (W : World) (h : Row W A (f64s ex1)) (h' : Row W B (f64s ex2)) => show Calls Try.prog 25 #[.agg #[.slice A 3 3, .int .i64 0, .int .i64 3, .int .i64 1], .agg #[.slice B 3 3, .int .i64 0, .int .i64 3, .int .i64 1]] W fun e w' => e = .returned (.tuple #[.float .f64 4629700416936869888, .int .i64 0]) ∧ Below W.heap.size W w' from by
    refine (dot_ok A B 3 3 ex1 0 3 1 3 3 ex2 0 1 W h h' ex1_wds ex2_wds rfl rfl (by omega) (by omega) (by omega) (by omega) (by omega) (by decide) (by decide) (by unfold I64; omega) (by unfold I64; omega) (by unfold I64; omega) (by unfold I64; omega)).mono ?_
    rintro e w' ⟨r, rfl, hr, hb⟩
    rw [ex_dot] at hr
    exact ⟨by rw [hr.eq_of (by decide)], hb⟩)
  have heq := ex_eq
  have HR := Lib.hid (row_of_blk (Blk.new w 48 (f64s ex1).toArray))
  have HB0 := Lib.hid ((Below.refl w.heap.size w).alloc (Nat.le_refl _) (.cells (f64s ex1).toArray 48))
  unfold ex1 at HR HB0
  go_enter Try.func22, Try.ntmps22
  go_wp2_with fail
  refine (HMo.out _ _ HR.out).mono ?_
  rintro e w1 ⟨rfl, hb⟩
  have HB1 := Lib.hid (below_nx HB0.out hb)
  clear hb
  go_wp2_with fail
  have HR1 := Lib.hid (row_of_blk ((((Blk.new w1 48 (f64s ex1).toArray).alloc (.cells (f64s ex2).toArray 48)).alloc (.cells #[.slice (some ⟨w1.heap.size, 0, none⟩) 3 3, .int .i64 0, .int .i64 3, .int .i64 1] 45)).alloc (.cells #[.slice (some ⟨w1.heap.size + 1, 0, none⟩) 3 3, .int .i64 0, .int .i64 3, .int .i64 1] 45)))
  have HR2 := Lib.hid (row_of_blk (((Blk.new_ (w1.alloc (.cells (f64s ex1).toArray 48)) 48 (f64s ex2).toArray (w1.heap.size + 1) (by simp)).alloc (.cells #[.slice (some ⟨w1.heap.size, 0, none⟩) 3 3, .int .i64 0, .int .i64 3, .int .i64 1] 45)).alloc (.cells #[.slice (some ⟨w1.heap.size + 1, 0, none⟩) 3 3, .int .i64 0, .int .i64 3, .int .i64 1] 45)))
  have HB2 := Lib.hid (below_al (below_al (below_al (below_al HB1.out (o := (.cells (f64s ex1).toArray 48))) (o := (.cells (f64s ex2).toArray 48))) (o := (.cells #[.slice (some ⟨w1.heap.size, 0, none⟩) 3 3, .int .i64 0, .int .i64 3, .int .i64 1] 45))) (o := (.cells #[.slice (some ⟨w1.heap.size + 1, 0, none⟩) 3 3, .int .i64 0, .int .i64 3, .int .i64 1] 45)))
  refine (HDt.out _ _ _ HR1.out HR2.out).mono ?_
  rintro e w2 ⟨rfl, hb⟩
  have HB3 := Lib.hid (below_nx HB2.out hb)
  clear hb
  go_wp2_with fail
  go_ret
  exact ⟨rfl, HB3.out⟩
end Go.Proofs.Ytamndbeffbcppaa
