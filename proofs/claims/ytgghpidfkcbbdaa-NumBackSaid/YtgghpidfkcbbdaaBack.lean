/-
NumBack, walked: it returns true. Conditions: the words are below 2^64.
-/
import Derived.Test.YtgghpidfkcbbdaaNext
set_option linter.unusedVariables false
namespace Go.Proofs.Ytgghpidfkcbbdaa
open Go.RowKit

theorem leq_cases (x y : Nat) : ((FloatKind.f64.format.order x y == some .lt) = true) ∨ ((FloatKind.f64.format.order x y == some .lt) = false ∧ (FloatKind.f64.format.order x y == some .eq) = true) ∨
    ((FloatKind.f64.format.order x y == some .lt) = false ∧ (FloatKind.f64.format.order x y == some .eq) = false) := by
  cases h1 : (FloatKind.f64.format.order x y == some .lt)
  · cases h2 : (FloatKind.f64.format.order x y == some .eq)
    · exact .inr (.inr ⟨rfl, rfl⟩)
    · exact .inr (.inl ⟨rfl, rfl⟩)
  · exact .inl rfl
theorem not_nan_of {x y : Nat} {o : Ordering} (h : (FloatKind.f64.format.order x y == some o) = true) : Fl.rung x ≤ Fl.INF ∧ Fl.rung y ≤ Fl.INF := by
  by_cases hx : Fl.INF < Fl.rung x ∨ Fl.INF < Fl.rung y
  · rw [Fl.cmp_nan hx] at h; cases h
  · omega
theorem scale_leq {x y : Nat} (k : Int) (h : (FloatKind.f64.format.order x y == some .lt) = true ∨ (FloatKind.f64.format.order x y == some .eq) = true) :
    ((FloatKind.f64.format.order (Fl.scale x k) (Fl.scale y k) == some .lt) = true) ∨ ((FloatKind.f64.format.order (Fl.scale x k) (Fl.scale y k) == some .lt) = false ∧ (FloatKind.f64.format.order (Fl.scale x k) (Fl.scale y k) == some .eq) = true) := by
  have hn : Fl.rung x ≤ Fl.INF ∧ Fl.rung y ≤ Fl.INF := by rcases h with h | h <;> exact not_nan_of h
  have hk : Fl.key x ≤ Fl.key y := by
    rcases h with h | h
    · rw [Fl.lss_of hn.1 hn.2] at h; simp at h; omega
    · rw [Fl.eql_of hn.1 hn.2] at h; simp at h; omega
  have hs := Fl.scale_mono k hn.1 hn.2 hk
  have r1 := Fl.rung_scale x k hn.1
  have r2 := Fl.rung_scale y k hn.2
  rw [Fl.lss_of r1 r2, Fl.eql_of r1 r2]
  by_cases hlt : Fl.key (Fl.scale x k) < Fl.key (Fl.scale y k)
  · left; simp [hlt]
  · right; simp; omega
theorem back_same {x : Nat} (hx : x < 18446744073709551616) (n : Nat) (h : (Fl.fin x && Fl.fin (Fl.scale x n)) = true) : sameB (Fl.scale (Fl.scale x n) (-(n : Int))) x = true := by
  simp only [Bool.and_eq_true, Fl.fin, decide_eq_true_eq] at h
  rw [Fl.scale_back hx n h.1 h.2]; simp [sameB]

theorem numBack_no (x y n : Nat) (w : World) (hx : x < 18446744073709551616) (hy : y < 18446744073709551616) (hn : n < 256)
    (l1 : (FloatKind.f64.format.order x y == some .lt) = false) (l2 : (FloatKind.f64.format.order x y == some .eq) = false) :
    Calls Try.prog 8 #[.float .f64 x, .float .f64 y, .int .u8 (n : Int)] w fun e w' => e = .returned (.bool true) ∧ Below w.heap.size w w' := by
  have HB := Lib.hid (@back_same x hx n)
  have HS1 := Lib.hid (@Fl.scale_lt x hx n)
  have HS2 := Lib.hid (@Fl.scale_lt _ (@Fl.scale_lt x hx n) (-(n : Int)))
  go_enter Try.func8, Try.ntmps8
  go_wp2_with fail
  refine (awake_any _).mono ?_
  rintro e w1 ⟨rfl, b1⟩
  go_wp2_with fail
  refine (scale_any x n _ hx).mono ?_
  rintro e w2 ⟨rfl, b2⟩
  go_wp2_with fail
  refine (rfinite_two _ _ x (Fl.scale x n) _ hx HS1.out (by simp) (by simp)).mono ?_
  rintro e w' ⟨rfl, rfl⟩
  have c1 := b1.size
  have c2 := b2.size
  have B2 := Lib.hid ((b1.trans (b2.mono c1)).alloc (Nat.le_trans c1 c2) (.cells #[.float .f64 x, .float .f64 (Fl.scale x n)] 22))
  clear b1 b2
  cases hf : (Fl.fin x && Fl.fin (Fl.scale x n))
  · clear hf HB
    go_wp2_with fail
    refine (awake_any _).mono ?_
    rintro e w4 ⟨rfl, b4⟩
    go_wp2_with fail
    go_ret
    exact ⟨rfl, B2.out.trans (b4.mono (by simp; omega))⟩
  · have HBB := Lib.hid (HB.out hf)
    clear hf HB
    go_wp2_with fail
    refine (scale_any (Fl.scale x n) (-(n : Int)) _ HS1.out).mono ?_
    rintro e w3 ⟨rfl, b3⟩
    have B3 := Lib.hid (B2.out.trans (b3.mono (by simp; omega)))
    have c3 := b3.size
    simp at c3
    clear b3
    go_wp2_with fail
    refine (rsame_any _ _ _ HS2.out hx).mono ?_
    rintro e w' ⟨rfl, rfl⟩
    rw [HBB.out]
    go_wp2_with fail
    refine (awake_any _).mono ?_
    rintro e w4 ⟨rfl, b4⟩
    go_wp2_with fail
    go_ret
    exact ⟨rfl, B3.out.trans (b4.mono (by omega))⟩

theorem numBack_eq (x y n : Nat) (w : World) (hx : x < 18446744073709551616) (hy : y < 18446744073709551616) (hn : n < 256)
    (l1 : (FloatKind.f64.format.order x y == some .lt) = false) (l2 : (FloatKind.f64.format.order x y == some .eq) = true) :
    Calls Try.prog 8 #[.float .f64 x, .float .f64 y, .int .u8 (n : Int)] w fun e w' => e = .returned (.bool true) ∧ Below w.heap.size w w' := by
  have HL := Lib.hid (@scale_leq x y (-(n : Int)) (.inr l2))
  have HB := Lib.hid (@back_same x hx n)
  have HS1 := Lib.hid (@Fl.scale_lt x hx n)
  have HS2 := Lib.hid (@Fl.scale_lt _ (@Fl.scale_lt x hx n) (-(n : Int)))
  go_enter Try.func8, Try.ntmps8
  go_wp2_with fail
  refine (awake_any _).mono ?_
  rintro e w1 ⟨rfl, b1⟩
  go_wp2_with fail
  refine (scale_any x n _ hx).mono ?_
  rintro e w2 ⟨rfl, b2⟩
  go_wp2_with fail
  refine (rfinite_two _ _ x (Fl.scale x n) _ hx HS1.out (by simp) (by simp)).mono ?_
  rintro e w' ⟨rfl, rfl⟩
  have c1 := b1.size
  have c2 := b2.size
  have B2 := Lib.hid ((b1.trans (b2.mono c1)).alloc (Nat.le_trans c1 c2) (.cells #[.float .f64 x, .float .f64 (Fl.scale x n)] 22))
  clear b1 b2
  cases hf : (Fl.fin x && Fl.fin (Fl.scale x n))
  · clear hf HB
    go_wp2_with fail
    refine (scale_any x (-(n : Int)) _ hx).mono ?_
    rintro e w4 ⟨rfl, b4⟩
    go_wp2_with fail
    refine (scale_any y (-(n : Int)) _ hy).mono ?_
    rintro e w5 ⟨rfl, b5⟩
    have c4 := b4.size
    have c5 := b5.size
    try simp at c4
    have B5 := Lib.hid ((B2.out.trans (b4.mono (by simp; omega))).trans (b5.mono (by omega)))
    clear b4 b5
    rcases HL.out with m1 | ⟨m1, m2⟩
    all_goals
      go_wp2_with fail
      refine (awake_any _).mono ?_
      rintro e w6 ⟨rfl, b6⟩
      go_wp2_with fail
      go_ret
      exact ⟨rfl, B5.out.trans (b6.mono (by omega))⟩
  · have HBB := Lib.hid (HB.out hf)
    clear hf HB
    go_wp2_with fail
    refine (scale_any (Fl.scale x n) (-(n : Int)) _ HS1.out).mono ?_
    rintro e w3 ⟨rfl, b3⟩
    have B3 := Lib.hid (B2.out.trans (b3.mono (by simp; omega)))
    have c3 := b3.size
    simp at c3
    clear b3
    go_wp2_with fail
    refine (rsame_any _ _ _ HS2.out hx).mono ?_
    rintro e w' ⟨rfl, rfl⟩
    rw [HBB.out]
    go_wp2_with fail
    refine (scale_any x (-(n : Int)) _ hx).mono ?_
    rintro e w4 ⟨rfl, b4⟩
    go_wp2_with fail
    refine (scale_any y (-(n : Int)) _ hy).mono ?_
    rintro e w5 ⟨rfl, b5⟩
    have c4 := b4.size
    have c5 := b5.size
    try simp at c4
    have B5 := Lib.hid ((B3.out.trans (b4.mono (by omega))).trans (b5.mono (by omega)))
    clear b4 b5
    rcases HL.out with m1 | ⟨m1, m2⟩
    all_goals
      go_wp2_with fail
      refine (awake_any _).mono ?_
      rintro e w6 ⟨rfl, b6⟩
      go_wp2_with fail
      go_ret
      exact ⟨rfl, B5.out.trans (b6.mono (by omega))⟩

theorem numBack_lt (x y n : Nat) (w : World) (hx : x < 18446744073709551616) (hy : y < 18446744073709551616) (hn : n < 256)
    (l1 : (FloatKind.f64.format.order x y == some .lt) = true) :
    Calls Try.prog 8 #[.float .f64 x, .float .f64 y, .int .u8 (n : Int)] w fun e w' => e = .returned (.bool true) ∧ Below w.heap.size w w' := by
  have HL := Lib.hid (@scale_leq x y (-(n : Int)) (.inl l1))
  have HB := Lib.hid (@back_same x hx n)
  have HS1 := Lib.hid (@Fl.scale_lt x hx n)
  have HS2 := Lib.hid (@Fl.scale_lt _ (@Fl.scale_lt x hx n) (-(n : Int)))
  go_enter Try.func8, Try.ntmps8
  go_wp2_with fail
  refine (awake_any _).mono ?_
  rintro e w1 ⟨rfl, b1⟩
  go_wp2_with fail
  refine (scale_any x n _ hx).mono ?_
  rintro e w2 ⟨rfl, b2⟩
  go_wp2_with fail
  refine (rfinite_two _ _ x (Fl.scale x n) _ hx HS1.out (by simp) (by simp)).mono ?_
  rintro e w' ⟨rfl, rfl⟩
  have c1 := b1.size
  have c2 := b2.size
  have B2 := Lib.hid ((b1.trans (b2.mono c1)).alloc (Nat.le_trans c1 c2) (.cells #[.float .f64 x, .float .f64 (Fl.scale x n)] 22))
  clear b1 b2
  cases hf : (Fl.fin x && Fl.fin (Fl.scale x n))
  · clear hf HB
    go_wp2_with fail
    refine (scale_any x (-(n : Int)) _ hx).mono ?_
    rintro e w4 ⟨rfl, b4⟩
    go_wp2_with fail
    refine (scale_any y (-(n : Int)) _ hy).mono ?_
    rintro e w5 ⟨rfl, b5⟩
    have c4 := b4.size
    have c5 := b5.size
    try simp at c4
    have B5 := Lib.hid ((B2.out.trans (b4.mono (by simp; omega))).trans (b5.mono (by omega)))
    clear b4 b5
    rcases HL.out with m1 | ⟨m1, m2⟩
    all_goals
      go_wp2_with fail
      refine (awake_any _).mono ?_
      rintro e w6 ⟨rfl, b6⟩
      go_wp2_with fail
      go_ret
      exact ⟨rfl, B5.out.trans (b6.mono (by omega))⟩
  · have HBB := Lib.hid (HB.out hf)
    clear hf HB
    go_wp2_with fail
    refine (scale_any (Fl.scale x n) (-(n : Int)) _ HS1.out).mono ?_
    rintro e w3 ⟨rfl, b3⟩
    have B3 := Lib.hid (B2.out.trans (b3.mono (by simp; omega)))
    have c3 := b3.size
    simp at c3
    clear b3
    go_wp2_with fail
    refine (rsame_any _ _ _ HS2.out hx).mono ?_
    rintro e w' ⟨rfl, rfl⟩
    rw [HBB.out]
    go_wp2_with fail
    refine (scale_any x (-(n : Int)) _ hx).mono ?_
    rintro e w4 ⟨rfl, b4⟩
    go_wp2_with fail
    refine (scale_any y (-(n : Int)) _ hy).mono ?_
    rintro e w5 ⟨rfl, b5⟩
    have c4 := b4.size
    have c5 := b5.size
    try simp at c4
    have B5 := Lib.hid ((B3.out.trans (b4.mono (by omega))).trans (b5.mono (by omega)))
    clear b4 b5
    rcases HL.out with m1 | ⟨m1, m2⟩
    all_goals
      go_wp2_with fail
      refine (awake_any _).mono ?_
      rintro e w6 ⟨rfl, b6⟩
      go_wp2_with fail
      go_ret
      exact ⟨rfl, B5.out.trans (b6.mono (by omega))⟩

theorem numBack_walk (x y : Nat) (k : Int) (w : World) (hx : x < 18446744073709551616) (hy : y < 18446744073709551616) (hk : (Lit.int .u8 k).wf = true) :
    Calls Try.prog 8 #[.float .f64 x, .float .f64 y, .int .u8 k] w fun e w' => e = .returned (.bool true) ∧ Below w.heap.size w w' := by
  have hb : 0 ≤ k ∧ k < 256 := by
    simp [Lit.wf, IntKind.min, IntKind.max, IntKind.signed, IntKind.bits] at hk
    omega
  obtain ⟨n, rfl⟩ := Int.eq_ofNat_of_zero_le hb.1
  rcases leq_cases x y with l | ⟨l1, l2⟩ | ⟨l1, l2⟩
  · exact numBack_lt x y n w hx hy (by omega) l
  · exact numBack_eq x y n w hx hy (by omega) l1 l2
  · exact numBack_no x y n w hx hy (by omega) l1 l2
end Go.Proofs.Ytgghpidfkcbbdaa
