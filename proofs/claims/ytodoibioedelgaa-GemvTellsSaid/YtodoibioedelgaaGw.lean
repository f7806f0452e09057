/-
The document's spans, and which error. Conditions: as each says.
-/
import Derived.Test.YtodoibioedelgaaZGvD
import Derived.Test.YtodoibioedelgaaZVwM
import Derived.Test.YtodoibioedelgaaGh
set_option linter.unusedVariables false
set_option linter.unusedSimpArgs false
set_option linter.unnecessarySimpa false
namespace Go.Proofs.Ytodoibioedelgaa
open Go.RowKit
attribute [local go_sem ↓] Go.wp_at_zero Go.wp_at_succ

/-- Two stretches have a place in common. -/
def spB (a b c d : Int) : Bool := decide (a ≤ b) && decide (c ≤ d) && decide (a ≤ d) && decide (c ≤ b)
theorem spans_any (a b c d : Int) (w : World) : Calls Try.prog 50 #[.int .i64 a, .int .i64 b, .int .i64 c, .int .i64 d] w fun e w' => e = .returned (.bool (spB a b c d)) ∧ w = w' := by
  unfold spB
  obtain ⟨x1, h1⟩ : ∃ x, decide (a ≤ b) = x := ⟨_, rfl⟩
  obtain ⟨x2, h2⟩ : ∃ x, decide (c ≤ d) = x := ⟨_, rfl⟩
  obtain ⟨x3, h3⟩ : ∃ x, decide (a ≤ d) = x := ⟨_, rfl⟩
  obtain ⟨x4, h4⟩ : ∃ x, decide (c ≤ b) = x := ⟨_, rfl⟩
  rw [h1, h2, h3, h4]
  cases x1
  · go_enter Try.func50, Try.ntmps50
    go_wp2_with fail
    go_ret
    exact ⟨rfl, rfl⟩
  cases x2
  · go_enter Try.func50, Try.ntmps50
    go_wp2_with fail
    go_ret
    exact ⟨rfl, rfl⟩
  cases x3
  · go_enter Try.func50, Try.ntmps50
    go_wp2_with fail
    go_ret
    exact ⟨rfl, rfl⟩
  cases x4 <;>
  · go_enter Try.func50, Try.ntmps50
    go_wp2_with fail
    go_ret
    exact ⟨rfl, rfl⟩
/-- From, to, of a vector, of a matrix. -/
def vsA (o K : Nat) : Int := if K = 0 then 0 else (o : Int)
def vsB (o K i : Nat) : Int := if K = 0 then -1 else ((o + (K - 1) * i : Nat) : Int)
def msA (o R C : Nat) : Int := if R = 0 ∨ C = 0 then 0 else (o : Int)
def msB (o R C L : Nat) : Int := if R = 0 ∨ C = 0 then -1 else ((o + (C - 1) * L + (R - 1) : Nat) : Int)
theorem wr2 {q : Nat} (h : q < 1048578) : wrap64 (q : Int) = (q : Int) ∧ IntKind.i64.wrap (q : Int) = (q : Int) := ⟨by unfold wrap64; omega, wrapi (by omega) (by omega)⟩
theorem beq0 (R : Nat) : (R == 0) = ((R : Int) == 0) := by
  cases R with
  | zero => rfl
  | succ n =>
    have : ((n + 1 : Nat) : Int) ≠ 0 := by omega
    rw [beq_eq_false_iff_ne.2 (Nat.succ_ne_zero n), beq_eq_false_iff_ne.2 this]
theorem vspan_facts {o K i n : Nat} (hn : n < 1048576) (hKb : K < 1048576) (e : K ≠ 0) (hr : o + (K - 1) * i < n) : ∃ k p P : Nat, o + (K - 1) * i = P ∧ (K : Int) - 1 = (k : Int) ∧ ((k : Int) * (i : Int)) = (p : Int) ∧ (o : Int) + (p : Int) = (P : Int) ∧
    (wrap64 (k : Int) = (k : Int) ∧ IntKind.i64.wrap (k : Int) = (k : Int)) ∧ (wrap64 (p : Int) = (p : Int) ∧ IntKind.i64.wrap (p : Int) = (p : Int)) ∧ (wrap64 (P : Int) = (P : Int) ∧ IntKind.i64.wrap (P : Int) = (P : Int)) := by
  have h1 : (((K - 1 : Nat) : Int) * (i : Int)) = (((K - 1) * i : Nat) : Int) := (Int.natCast_mul _ _).symm
  refine ⟨K - 1, (K - 1) * i, o + (K - 1) * i, rfl, by omega, h1, ?_, wr2 (by omega), ?_, ?_⟩
  · generalize (K - 1) * i = p; omega
  · generalize (K - 1) * i = p at *; exact wr2 (by omega)
  · generalize (K - 1) * i = p at *; exact wr2 (by omega)
theorem mspan_facts {o R C L n : Nat} (hn : n < 1048576) (hRb : R < 1048576) (hCb : C < 1048576) (eR : R ≠ 0) (eC : C ≠ 0) (hr : o + (C - 1) * L + (R - 1) < n) : ∃ k p P S S' : Nat, o + (C - 1) * L + (R - 1) = S' ∧ (C : Int) - 1 = (k : Int) ∧ ((k : Int) * (L : Int)) = (p : Int) ∧ (o : Int) + (p : Int) = (P : Int) ∧ (P : Int) + (R : Int) = (S : Int) ∧ (S : Int) - 1 = (S' : Int) ∧
    (wrap64 (k : Int) = (k : Int) ∧ IntKind.i64.wrap (k : Int) = (k : Int)) ∧ (wrap64 (p : Int) = (p : Int) ∧ IntKind.i64.wrap (p : Int) = (p : Int)) ∧ (wrap64 (P : Int) = (P : Int) ∧ IntKind.i64.wrap (P : Int) = (P : Int)) ∧ (wrap64 (S : Int) = (S : Int) ∧ IntKind.i64.wrap (S : Int) = (S : Int)) ∧ (wrap64 (S' : Int) = (S' : Int) ∧ IntKind.i64.wrap (S' : Int) = (S' : Int)) := by
  have h1 : (((C - 1 : Nat) : Int) * (L : Int)) = (((C - 1) * L : Nat) : Int) := (Int.natCast_mul _ _).symm
  refine ⟨C - 1, (C - 1) * L, o + (C - 1) * L, o + (C - 1) * L + R, o + (C - 1) * L + (R - 1), rfl, by omega, h1, ?_⟩
  clear h1
  generalize (C - 1) * L = p at *
  exact ⟨by omega, by omega, by omega, wr2 (by omega), wr2 (by omega), wr2 (by omega), wr2 (by omega), wr2 (by omega)⟩
set_option maxHeartbeats 1000000 in
theorem vspan_any (A : Option Addr) (n c o K i : Nat) (w : World) (hn : n < 1048576) (hKb : K < 1048576) (hr : K = 0 ∨ o + (K - 1) * i < n) :
    Calls Try.prog 48 #[vec A n c o K i] w fun e w' => e = .returned (.tuple #[.int .i64 (vsA o K), .int .i64 (vsB o K i)]) ∧ Below w.heap.size w w' := by
  have HB := Lib.hid ((Below.refl w.heap.size w).alloc (Nat.le_refl _) (.cells #[.slice A n c, .int .i64 o, .int .i64 K, .int .i64 i] 27))
  unfold vsA vsB
  by_cases e : K = 0
  · subst e
    rw [if_pos rfl, if_pos rfl]
    unfold vec
    have t1 : (((0 : Nat) : Int) == 0) = true := rfl
    go_enter Try.func48, Try.ntmps48
    go_wp2_with fail
    go_ret2
    exact ⟨rfl, HB.out⟩
  · rw [if_neg e, if_neg e]
    obtain ⟨k, p, P, hP, e1, e2, e3, ⟨a1, a2⟩, ⟨b1, b2⟩, ⟨c1, c2⟩⟩ := vspan_facts (i := i) hn hKb e (hr.resolve_left e)
    rw [hP]
    have t1 : ((K : Int) == 0) = false := by simp [e]
    have t2 : (K == 0) = false := by simp [e]
    clear e hr hP hKb hn
    unfold vec
    go_enter Try.func48, Try.ntmps48
    go_wp2_with fail
    go_quiet (fail)
    go_wp2_with fail
    go_ret2
    exact ⟨rfl, below_drewN HB.out _⟩
set_option maxHeartbeats 1000000 in
theorem mspan_any (A : Option Addr) (n c o R C L : Nat) (w : World) (hn : n < 1048576) (hRb : R < 1048576) (hCb : C < 1048576) (hr : R = 0 ∨ C = 0 ∨ o + (C - 1) * L + (R - 1) < n) :
    Calls Try.prog 49 #[mat A n c o R C L] w fun e w' => e = .returned (.tuple #[.int .i64 (msA o R C), .int .i64 (msB o R C L)]) ∧ Below w.heap.size w w' := by
  have HB := Lib.hid ((Below.refl w.heap.size w).alloc (Nat.le_refl _) (.cells #[.slice A n c, .int .i64 o, .int .i64 R, .int .i64 C, .int .i64 L] 25))
  unfold msA msB
  by_cases e : R = 0 ∨ C = 0
  · rw [if_pos e, if_pos e]
    obtain ⟨x, hx⟩ : ∃ x, ((R : Int) == 0) = x := ⟨_, rfl⟩
    obtain ⟨y, hy⟩ : ∃ y, ((C : Int) == 0) = y := ⟨_, rfl⟩
    have hxn : (R == 0) = x := by rw [← hx]; exact beq0 R
    have hyn : (C == 0) = y := by rw [← hy]; exact beq0 C
    have hxy : x = true ∨ y = true := by
      rcases e with h | h
      · left; rw [← hx]; simp [h]
      · right; rw [← hy]; simp [h]
    clear e hr
    cases x
    · have hy1 : y = true := by simpa using hxy
      subst hy1
      clear hxy
      unfold mat
      go_enter Try.func49, Try.ntmps49
      go_wp2_with fail
      go_ret2
      exact ⟨rfl, HB.out⟩
    · clear hxy hy hyn y
      unfold mat
      go_enter Try.func49, Try.ntmps49
      go_wp2_with fail
      go_ret2
      exact ⟨rfl, HB.out⟩
  · rw [if_neg e, if_neg e]
    have eR : R ≠ 0 := fun h => e (.inl h)
    have eC : C ≠ 0 := fun h => e (.inr h)
    have hr2 : o + (C - 1) * L + (R - 1) < n := (hr.resolve_left eR).resolve_left eC
    obtain ⟨k, p, P, S, S', hS', e1, e2, e3, e4, e5, ⟨a1, a2⟩, ⟨b1, b2⟩, ⟨c1, c2⟩, ⟨d1, d2⟩, ⟨f1, f2⟩⟩ := mspan_facts (L := L) hn hRb hCb eR eC hr2
    rw [hS']
    have t1 : ((R : Int) == 0) = false := by simp [eR]
    have t2 : (R == 0) = false := by simp [eR]
    have t3 : ((C : Int) == 0) = false := by simp [eC]
    have t4 : (C == 0) = false := by simp [eC]
    clear e hr hr2 hS' eR eC hn hRb hCb
    unfold mat
    go_enter Try.func49, Try.ntmps49
    go_wp2_with fail
    go_quiet (fail)
    go_wp2_with fail
    go_ret2
    exact ⟨rfl, below_drewN HB.out _⟩
end Go.Proofs.Ytodoibioedelgaa
/-
The document's Check. Conditions: as each says.
-/
set_option linter.unusedVariables false
set_option linter.unusedSimpArgs false
set_option linter.unnecessarySimpa false
namespace Go.Proofs.Ytodoibioedelgaa
open Go.RowKit
attribute [local go_sem ↓] Go.wp_at_zero Go.wp_at_succ

set_option maxHeartbeats 2000000 in
theorem rcheck_bad (Am : Option Addr) (nm cm : Nat) (mo mr mk ml : Int) (Ax : Option Addr) (nx cx : Nat) (xo xk xi : Int) (A : Option Addr) (n c : Nat) (off k inc : Int) (r0 c0 one : Int) (w : World) (hnm : nm < 9223372036854775808) (hmo : I64 mo) (hmr : I64 mr) (hmk : I64 mk) (hml : I64 ml) (hnx : nx < 9223372036854775808) (hxo : I64 xo) (hxk : I64 xk) (hxi : I64 xi) (hn : n < 9223372036854775808) (ho : I64 off) (hk : I64 k) (hi : I64 inc) (h : (matB nm mo mr mk ml && vecB nx xo xk xi && vecB n off k inc) = false) :
    Calls Try.prog 15 #[mat Am nm cm mo mr mk ml, .int .i64 r0, .int .i64 c0, vec Ax nx cx xo xk xi, vec A n c off k inc, .int .i64 one] w fun e w' => e = .returned (.int .i64 1) ∧ Below w.heap.size w w' := by
  have HG := Lib.hid (fun W => rgood_any Am nm cm mo mr mk ml W hnm hmo hmr hmk hml)
  have HRx := Lib.hid (fun W => rright_any Ax nx cx xo xk xi W hnx hxo hxk hxi)
  have HRy := Lib.hid (fun W => rright_any A n c off k inc W hn ho hk hi)
  generalize matB nm mo mr mk ml = b1 at *
  generalize vecB nx xo xk xi = b2 at *
  generalize vecB n off k inc = b3 at *
  clear hnm hmo hmr hmk hml hnx hxo hxk hxi hn ho hk hi
  cases b1
  · clear h
    unfold mat vec at *
    go_enter Try.func15, Try.ntmps15
    have HM0 := Lib.hid (((Blk.new w 25 #[.slice Am nm cm, .int .i64 mo, .int .i64 mr, .int .i64 mk, .int .i64 ml]).alloc (.cells #[.slice Ax nx cx, .int .i64 xo, .int .i64 xk, .int .i64 xi] 27)).alloc (.cells #[.slice A n c, .int .i64 off, .int .i64 k, .int .i64 inc] 27))
    have HX0 := Lib.hid ((Blk.new_ (w.alloc (.cells #[.slice Am nm cm, .int .i64 mo, .int .i64 mr, .int .i64 mk, .int .i64 ml] 25)) 27 #[.slice Ax nx cx, .int .i64 xo, .int .i64 xk, .int .i64 xi] (w.heap.size + 1) (by simp)).alloc (.cells #[.slice A n c, .int .i64 off, .int .i64 k, .int .i64 inc] 27))
    have HY0 := Lib.hid (Blk.new_ ((w.alloc (.cells #[.slice Am nm cm, .int .i64 mo, .int .i64 mr, .int .i64 mk, .int .i64 ml] 25)).alloc (.cells #[.slice Ax nx cx, .int .i64 xo, .int .i64 xk, .int .i64 xi] 27)) 27 #[.slice A n c, .int .i64 off, .int .i64 k, .int .i64 inc] (w.heap.size + 1 + 1) (by simp))
    have HB0 := Lib.hid ((((Below.refl w.heap.size w).alloc (Nat.le_refl _) (.cells #[.slice Am nm cm, .int .i64 mo, .int .i64 mr, .int .i64 mk, .int .i64 ml] 25)).alloc (by simp) (.cells #[.slice Ax nx cx, .int .i64 xo, .int .i64 xk, .int .i64 xi] 27)).alloc (by simp; omega) (.cells #[.slice A n c, .int .i64 off, .int .i64 k, .int .i64 inc] 27))
    obtain ⟨m0, m1, m2, m3, m4⟩ := cells5 HM0.out
    obtain ⟨x0, x1, x2, x3⟩ := cells4w HX0.out
    obtain ⟨y0, y1, y2, y3⟩ := cells4w HY0.out
    go_wp2_with fail
    refine (HG.out _).mono ?_
    rintro e w1 ⟨rfl, hb⟩
    have HM1 := Lib.hid (HM0.out.nxt hb)
    have HX1 := Lib.hid (HX0.out.nxt hb)
    have HY1 := Lib.hid (HY0.out.nxt hb)
    have HB1 := Lib.hid (below_nx HB0.out hb)
    clear hb m0 m1 m2 m3 m4 x0 x1 x2 x3 y0 y1 y2 y3
    obtain ⟨m0, m1, m2, m3, m4⟩ := cells5 HM1.out
    obtain ⟨x0, x1, x2, x3⟩ := cells4w HX1.out
    obtain ⟨y0, y1, y2, y3⟩ := cells4w HY1.out
    go_wp2_with fail
    go_ret
    exact ⟨rfl, HB1.out⟩
  · cases b2
    · clear h
      unfold mat vec at *
      go_enter Try.func15, Try.ntmps15
      have HM0 := Lib.hid (((Blk.new w 25 #[.slice Am nm cm, .int .i64 mo, .int .i64 mr, .int .i64 mk, .int .i64 ml]).alloc (.cells #[.slice Ax nx cx, .int .i64 xo, .int .i64 xk, .int .i64 xi] 27)).alloc (.cells #[.slice A n c, .int .i64 off, .int .i64 k, .int .i64 inc] 27))
      have HX0 := Lib.hid ((Blk.new_ (w.alloc (.cells #[.slice Am nm cm, .int .i64 mo, .int .i64 mr, .int .i64 mk, .int .i64 ml] 25)) 27 #[.slice Ax nx cx, .int .i64 xo, .int .i64 xk, .int .i64 xi] (w.heap.size + 1) (by simp)).alloc (.cells #[.slice A n c, .int .i64 off, .int .i64 k, .int .i64 inc] 27))
      have HY0 := Lib.hid (Blk.new_ ((w.alloc (.cells #[.slice Am nm cm, .int .i64 mo, .int .i64 mr, .int .i64 mk, .int .i64 ml] 25)).alloc (.cells #[.slice Ax nx cx, .int .i64 xo, .int .i64 xk, .int .i64 xi] 27)) 27 #[.slice A n c, .int .i64 off, .int .i64 k, .int .i64 inc] (w.heap.size + 1 + 1) (by simp))
      have HB0 := Lib.hid ((((Below.refl w.heap.size w).alloc (Nat.le_refl _) (.cells #[.slice Am nm cm, .int .i64 mo, .int .i64 mr, .int .i64 mk, .int .i64 ml] 25)).alloc (by simp) (.cells #[.slice Ax nx cx, .int .i64 xo, .int .i64 xk, .int .i64 xi] 27)).alloc (by simp; omega) (.cells #[.slice A n c, .int .i64 off, .int .i64 k, .int .i64 inc] 27))
      obtain ⟨m0, m1, m2, m3, m4⟩ := cells5 HM0.out
      obtain ⟨x0, x1, x2, x3⟩ := cells4w HX0.out
      obtain ⟨y0, y1, y2, y3⟩ := cells4w HY0.out
      go_wp2_with fail
      refine (HG.out _).mono ?_
      rintro e w1 ⟨rfl, hb⟩
      have HM1 := Lib.hid (HM0.out.nxt hb)
      have HX1 := Lib.hid (HX0.out.nxt hb)
      have HY1 := Lib.hid (HY0.out.nxt hb)
      have HB1 := Lib.hid (below_nx HB0.out hb)
      clear hb m0 m1 m2 m3 m4 x0 x1 x2 x3 y0 y1 y2 y3
      obtain ⟨m0, m1, m2, m3, m4⟩ := cells5 HM1.out
      obtain ⟨x0, x1, x2, x3⟩ := cells4w HX1.out
      obtain ⟨y0, y1, y2, y3⟩ := cells4w HY1.out
      go_wp2_with fail
      refine (HRx.out _).mono ?_
      rintro e w2 ⟨rfl, hb⟩
      have HM2 := Lib.hid (HM1.out.nxt hb)
      have HX2 := Lib.hid (HX1.out.nxt hb)
      have HY2 := Lib.hid (HY1.out.nxt hb)
      have HB2 := Lib.hid (below_nx HB1.out hb)
      clear hb m0 m1 m2 m3 m4 x0 x1 x2 x3 y0 y1 y2 y3
      obtain ⟨m0, m1, m2, m3, m4⟩ := cells5 HM2.out
      obtain ⟨x0, x1, x2, x3⟩ := cells4w HX2.out
      obtain ⟨y0, y1, y2, y3⟩ := cells4w HY2.out
      go_wp2_with fail
      go_ret
      exact ⟨rfl, HB2.out⟩
    · have hb3 : b3 = false := by simpa using h
      subst hb3
      clear h
      unfold mat vec at *
      go_enter Try.func15, Try.ntmps15
      have HM0 := Lib.hid (((Blk.new w 25 #[.slice Am nm cm, .int .i64 mo, .int .i64 mr, .int .i64 mk, .int .i64 ml]).alloc (.cells #[.slice Ax nx cx, .int .i64 xo, .int .i64 xk, .int .i64 xi] 27)).alloc (.cells #[.slice A n c, .int .i64 off, .int .i64 k, .int .i64 inc] 27))
      have HX0 := Lib.hid ((Blk.new_ (w.alloc (.cells #[.slice Am nm cm, .int .i64 mo, .int .i64 mr, .int .i64 mk, .int .i64 ml] 25)) 27 #[.slice Ax nx cx, .int .i64 xo, .int .i64 xk, .int .i64 xi] (w.heap.size + 1) (by simp)).alloc (.cells #[.slice A n c, .int .i64 off, .int .i64 k, .int .i64 inc] 27))
      have HY0 := Lib.hid (Blk.new_ ((w.alloc (.cells #[.slice Am nm cm, .int .i64 mo, .int .i64 mr, .int .i64 mk, .int .i64 ml] 25)).alloc (.cells #[.slice Ax nx cx, .int .i64 xo, .int .i64 xk, .int .i64 xi] 27)) 27 #[.slice A n c, .int .i64 off, .int .i64 k, .int .i64 inc] (w.heap.size + 1 + 1) (by simp))
      have HB0 := Lib.hid ((((Below.refl w.heap.size w).alloc (Nat.le_refl _) (.cells #[.slice Am nm cm, .int .i64 mo, .int .i64 mr, .int .i64 mk, .int .i64 ml] 25)).alloc (by simp) (.cells #[.slice Ax nx cx, .int .i64 xo, .int .i64 xk, .int .i64 xi] 27)).alloc (by simp; omega) (.cells #[.slice A n c, .int .i64 off, .int .i64 k, .int .i64 inc] 27))
      obtain ⟨m0, m1, m2, m3, m4⟩ := cells5 HM0.out
      obtain ⟨x0, x1, x2, x3⟩ := cells4w HX0.out
      obtain ⟨y0, y1, y2, y3⟩ := cells4w HY0.out
      go_wp2_with fail
      refine (HG.out _).mono ?_
      rintro e w1 ⟨rfl, hb⟩
      have HM1 := Lib.hid (HM0.out.nxt hb)
      have HX1 := Lib.hid (HX0.out.nxt hb)
      have HY1 := Lib.hid (HY0.out.nxt hb)
      have HB1 := Lib.hid (below_nx HB0.out hb)
      clear hb m0 m1 m2 m3 m4 x0 x1 x2 x3 y0 y1 y2 y3
      obtain ⟨m0, m1, m2, m3, m4⟩ := cells5 HM1.out
      obtain ⟨x0, x1, x2, x3⟩ := cells4w HX1.out
      obtain ⟨y0, y1, y2, y3⟩ := cells4w HY1.out
      go_wp2_with fail
      refine (HRx.out _).mono ?_
      rintro e w2 ⟨rfl, hb⟩
      have HM2 := Lib.hid (HM1.out.nxt hb)
      have HX2 := Lib.hid (HX1.out.nxt hb)
      have HY2 := Lib.hid (HY1.out.nxt hb)
      have HB2 := Lib.hid (below_nx HB1.out hb)
      clear hb m0 m1 m2 m3 m4 x0 x1 x2 x3 y0 y1 y2 y3
      obtain ⟨m0, m1, m2, m3, m4⟩ := cells5 HM2.out
      obtain ⟨x0, x1, x2, x3⟩ := cells4w HX2.out
      obtain ⟨y0, y1, y2, y3⟩ := cells4w HY2.out
      go_wp2_with fail
      refine (HRy.out _).mono ?_
      rintro e w3 ⟨rfl, hb⟩
      have HM3 := Lib.hid (HM2.out.nxt hb)
      have HX3 := Lib.hid (HX2.out.nxt hb)
      have HY3 := Lib.hid (HY2.out.nxt hb)
      have HB3 := Lib.hid (below_nx HB2.out hb)
      clear hb m0 m1 m2 m3 m4 x0 x1 x2 x3 y0 y1 y2 y3
      obtain ⟨m0, m1, m2, m3, m4⟩ := cells5 HM3.out
      obtain ⟨x0, x1, x2, x3⟩ := cells4w HX3.out
      obtain ⟨y0, y1, y2, y3⟩ := cells4w HY3.out
      go_wp2_with fail
      go_ret
      exact ⟨rfl, HB3.out⟩

set_option maxHeartbeats 2000000 in
theorem rcheck_size (Am : Option Addr) (nm cm : Nat) (mo mr mk ml : Int) (Ax : Option Addr) (nx cx : Nat) (xo xk xi : Int) (A : Option Addr) (n c : Nat) (off k inc : Int) (r0 c0 one : Int) (w : World) (hnm : nm < 9223372036854775808) (hmo : I64 mo) (hmr : I64 mr) (hmk : I64 mk) (hml : I64 ml) (hnx : nx < 9223372036854775808) (hxo : I64 xo) (hxk : I64 xk) (hxi : I64 xi) (hn : n < 9223372036854775808) (ho : I64 off) (hk : I64 k) (hi : I64 inc) (h : (matB nm mo mr mk ml && vecB nx xo xk xi && vecB n off k inc) = true) (hs : ¬ (xk = c0 ∧ k = r0)) :
    Calls Try.prog 15 #[mat Am nm cm mo mr mk ml, .int .i64 r0, .int .i64 c0, vec Ax nx cx xo xk xi, vec A n c off k inc, .int .i64 one] w fun e w' => e = .returned (.int .i64 3) ∧ Below w.heap.size w w' := by
  have HG := Lib.hid (fun W => rgood_any Am nm cm mo mr mk ml W hnm hmo hmr hmk hml)
  have HRx := Lib.hid (fun W => rright_any Ax nx cx xo xk xi W hnx hxo hxk hxi)
  have HRy := Lib.hid (fun W => rright_any A n c off k inc W hn ho hk hi)
  simp only [Bool.and_eq_true] at h
  rw [h.1.1] at HG
  rw [h.1.2] at HRx
  rw [h.2] at HRy
  clear hnm hmo hmr hmk hml hnx hxo hxk hxi hn ho hk hi
  clear h
  by_cases e1 : xk = c0
  · have t1 : (xk == c0) = true := by simp [e1]
    have t1' : (xk != c0) = false := by simp [e1]
    have e2 : ¬ k = r0 := fun e => hs ⟨e1, e⟩
    have t2 : (k == r0) = false := by simp [e2]
    have t2' : (k != r0) = true := by simp [e2]
    clear e1 e2 hs
    unfold mat vec at *
    go_enter Try.func15, Try.ntmps15
    have HM0 := Lib.hid (((Blk.new w 25 #[.slice Am nm cm, .int .i64 mo, .int .i64 mr, .int .i64 mk, .int .i64 ml]).alloc (.cells #[.slice Ax nx cx, .int .i64 xo, .int .i64 xk, .int .i64 xi] 27)).alloc (.cells #[.slice A n c, .int .i64 off, .int .i64 k, .int .i64 inc] 27))
    have HX0 := Lib.hid ((Blk.new_ (w.alloc (.cells #[.slice Am nm cm, .int .i64 mo, .int .i64 mr, .int .i64 mk, .int .i64 ml] 25)) 27 #[.slice Ax nx cx, .int .i64 xo, .int .i64 xk, .int .i64 xi] (w.heap.size + 1) (by simp)).alloc (.cells #[.slice A n c, .int .i64 off, .int .i64 k, .int .i64 inc] 27))
    have HY0 := Lib.hid (Blk.new_ ((w.alloc (.cells #[.slice Am nm cm, .int .i64 mo, .int .i64 mr, .int .i64 mk, .int .i64 ml] 25)).alloc (.cells #[.slice Ax nx cx, .int .i64 xo, .int .i64 xk, .int .i64 xi] 27)) 27 #[.slice A n c, .int .i64 off, .int .i64 k, .int .i64 inc] (w.heap.size + 1 + 1) (by simp))
    have HB0 := Lib.hid ((((Below.refl w.heap.size w).alloc (Nat.le_refl _) (.cells #[.slice Am nm cm, .int .i64 mo, .int .i64 mr, .int .i64 mk, .int .i64 ml] 25)).alloc (by simp) (.cells #[.slice Ax nx cx, .int .i64 xo, .int .i64 xk, .int .i64 xi] 27)).alloc (by simp; omega) (.cells #[.slice A n c, .int .i64 off, .int .i64 k, .int .i64 inc] 27))
    obtain ⟨m0, m1, m2, m3, m4⟩ := cells5 HM0.out
    obtain ⟨x0, x1, x2, x3⟩ := cells4w HX0.out
    obtain ⟨y0, y1, y2, y3⟩ := cells4w HY0.out
    go_wp2_with fail
    refine (HG.out _).mono ?_
    rintro e w1 ⟨rfl, hb⟩
    have HM1 := Lib.hid (HM0.out.nxt hb)
    have HX1 := Lib.hid (HX0.out.nxt hb)
    have HY1 := Lib.hid (HY0.out.nxt hb)
    have HB1 := Lib.hid (below_nx HB0.out hb)
    clear hb m0 m1 m2 m3 m4 x0 x1 x2 x3 y0 y1 y2 y3
    obtain ⟨m0, m1, m2, m3, m4⟩ := cells5 HM1.out
    obtain ⟨x0, x1, x2, x3⟩ := cells4w HX1.out
    obtain ⟨y0, y1, y2, y3⟩ := cells4w HY1.out
    go_wp2_with fail
    refine (HRx.out _).mono ?_
    rintro e w2 ⟨rfl, hb⟩
    have HM2 := Lib.hid (HM1.out.nxt hb)
    have HX2 := Lib.hid (HX1.out.nxt hb)
    have HY2 := Lib.hid (HY1.out.nxt hb)
    have HB2 := Lib.hid (below_nx HB1.out hb)
    clear hb m0 m1 m2 m3 m4 x0 x1 x2 x3 y0 y1 y2 y3
    obtain ⟨m0, m1, m2, m3, m4⟩ := cells5 HM2.out
    obtain ⟨x0, x1, x2, x3⟩ := cells4w HX2.out
    obtain ⟨y0, y1, y2, y3⟩ := cells4w HY2.out
    go_wp2_with fail
    refine (HRy.out _).mono ?_
    rintro e w3 ⟨rfl, hb⟩
    have HM3 := Lib.hid (HM2.out.nxt hb)
    have HX3 := Lib.hid (HX2.out.nxt hb)
    have HY3 := Lib.hid (HY2.out.nxt hb)
    have HB3 := Lib.hid (below_nx HB2.out hb)
    clear hb m0 m1 m2 m3 m4 x0 x1 x2 x3 y0 y1 y2 y3
    obtain ⟨m0, m1, m2, m3, m4⟩ := cells5 HM3.out
    obtain ⟨x0, x1, x2, x3⟩ := cells4w HX3.out
    obtain ⟨y0, y1, y2, y3⟩ := cells4w HY3.out
    go_wp2_with fail
    go_ret
    exact ⟨rfl, HB3.out⟩
  · have t1 : (xk == c0) = false := by simp [e1]
    have t1' : (xk != c0) = true := by simp [e1]
    clear e1 hs
    unfold mat vec at *
    go_enter Try.func15, Try.ntmps15
    have HM0 := Lib.hid (((Blk.new w 25 #[.slice Am nm cm, .int .i64 mo, .int .i64 mr, .int .i64 mk, .int .i64 ml]).alloc (.cells #[.slice Ax nx cx, .int .i64 xo, .int .i64 xk, .int .i64 xi] 27)).alloc (.cells #[.slice A n c, .int .i64 off, .int .i64 k, .int .i64 inc] 27))
    have HX0 := Lib.hid ((Blk.new_ (w.alloc (.cells #[.slice Am nm cm, .int .i64 mo, .int .i64 mr, .int .i64 mk, .int .i64 ml] 25)) 27 #[.slice Ax nx cx, .int .i64 xo, .int .i64 xk, .int .i64 xi] (w.heap.size + 1) (by simp)).alloc (.cells #[.slice A n c, .int .i64 off, .int .i64 k, .int .i64 inc] 27))
    have HY0 := Lib.hid (Blk.new_ ((w.alloc (.cells #[.slice Am nm cm, .int .i64 mo, .int .i64 mr, .int .i64 mk, .int .i64 ml] 25)).alloc (.cells #[.slice Ax nx cx, .int .i64 xo, .int .i64 xk, .int .i64 xi] 27)) 27 #[.slice A n c, .int .i64 off, .int .i64 k, .int .i64 inc] (w.heap.size + 1 + 1) (by simp))
    have HB0 := Lib.hid ((((Below.refl w.heap.size w).alloc (Nat.le_refl _) (.cells #[.slice Am nm cm, .int .i64 mo, .int .i64 mr, .int .i64 mk, .int .i64 ml] 25)).alloc (by simp) (.cells #[.slice Ax nx cx, .int .i64 xo, .int .i64 xk, .int .i64 xi] 27)).alloc (by simp; omega) (.cells #[.slice A n c, .int .i64 off, .int .i64 k, .int .i64 inc] 27))
    obtain ⟨m0, m1, m2, m3, m4⟩ := cells5 HM0.out
    obtain ⟨x0, x1, x2, x3⟩ := cells4w HX0.out
    obtain ⟨y0, y1, y2, y3⟩ := cells4w HY0.out
    go_wp2_with fail
    refine (HG.out _).mono ?_
    rintro e w1 ⟨rfl, hb⟩
    have HM1 := Lib.hid (HM0.out.nxt hb)
    have HX1 := Lib.hid (HX0.out.nxt hb)
    have HY1 := Lib.hid (HY0.out.nxt hb)
    have HB1 := Lib.hid (below_nx HB0.out hb)
    clear hb m0 m1 m2 m3 m4 x0 x1 x2 x3 y0 y1 y2 y3
    obtain ⟨m0, m1, m2, m3, m4⟩ := cells5 HM1.out
    obtain ⟨x0, x1, x2, x3⟩ := cells4w HX1.out
    obtain ⟨y0, y1, y2, y3⟩ := cells4w HY1.out
    go_wp2_with fail
    refine (HRx.out _).mono ?_
    rintro e w2 ⟨rfl, hb⟩
    have HM2 := Lib.hid (HM1.out.nxt hb)
    have HX2 := Lib.hid (HX1.out.nxt hb)
    have HY2 := Lib.hid (HY1.out.nxt hb)
    have HB2 := Lib.hid (below_nx HB1.out hb)
    clear hb m0 m1 m2 m3 m4 x0 x1 x2 x3 y0 y1 y2 y3
    obtain ⟨m0, m1, m2, m3, m4⟩ := cells5 HM2.out
    obtain ⟨x0, x1, x2, x3⟩ := cells4w HX2.out
    obtain ⟨y0, y1, y2, y3⟩ := cells4w HY2.out
    go_wp2_with fail
    refine (HRy.out _).mono ?_
    rintro e w3 ⟨rfl, hb⟩
    have HM3 := Lib.hid (HM2.out.nxt hb)
    have HX3 := Lib.hid (HX2.out.nxt hb)
    have HY3 := Lib.hid (HY2.out.nxt hb)
    have HB3 := Lib.hid (below_nx HB2.out hb)
    clear hb m0 m1 m2 m3 m4 x0 x1 x2 x3 y0 y1 y2 y3
    obtain ⟨m0, m1, m2, m3, m4⟩ := cells5 HM3.out
    obtain ⟨x0, x1, x2, x3⟩ := cells4w HX3.out
    obtain ⟨y0, y1, y2, y3⟩ := cells4w HY3.out
    go_wp2_with fail
    go_ret
    exact ⟨rfl, HB3.out⟩


set_option maxHeartbeats 2000000 in
theorem rcheck_0 (Am : Option Addr) (nm cm : Nat) (mo mr mk ml : Int) (Ax : Option Addr) (nx cx : Nat) (xo xk xi : Int) (A : Option Addr) (n c : Nat) (off k inc : Int) (m1 m2 x1 x2 y1 y2 : Int) (w : World) (hnm : nm < 9223372036854775808) (hmo : I64 mo) (hmr : I64 mr) (hmk : I64 mk) (hml : I64 ml) (hnx : nx < 9223372036854775808) (hxo : I64 xo) (hxk : I64 xk) (hxi : I64 xi) (hn : n < 9223372036854775808) (ho : I64 off) (hk : I64 k) (hi : I64 inc) (h : (matB nm mo mr mk ml && vecB nx xo xk xi && vecB n off k inc) = true)
    (hSm : ∀ W, Calls Try.prog 49 #[mat Am nm cm mo mr mk ml] W fun e w' => e = .returned (.tuple #[.int .i64 m1, .int .i64 m2]) ∧ Below W.heap.size W w')
    (hSx : ∀ W, Calls Try.prog 48 #[vec Ax nx cx xo xk xi] W fun e w' => e = .returned (.tuple #[.int .i64 x1, .int .i64 x2]) ∧ Below W.heap.size W w')
    (hSy : ∀ W, Calls Try.prog 48 #[vec A n c off k inc] W fun e w' => e = .returned (.tuple #[.int .i64 y1, .int .i64 y2]) ∧ Below W.heap.size W w') :
    Calls Try.prog 15 #[mat Am nm cm mo mr mk ml, .int .i64 k, .int .i64 xk, vec Ax nx cx xo xk xi, vec A n c off k inc, .int .i64 0] w fun e w' => e = .returned (.int .i64 0) ∧ Below w.heap.size w w' := by
  have HG := Lib.hid (fun W => rgood_any Am nm cm mo mr mk ml W hnm hmo hmr hmk hml)
  have HRx := Lib.hid (fun W => rright_any Ax nx cx xo xk xi W hnx hxo hxk hxi)
  have HRy := Lib.hid (fun W => rright_any A n c off k inc W hn ho hk hi)
  simp only [Bool.and_eq_true] at h
  rw [h.1.1] at HG
  rw [h.1.2] at HRx
  rw [h.2] at HRy
  have HSm := Lib.hid hSm
  have HSx := Lib.hid hSx
  have HSy := Lib.hid hSy
  clear hnm hmo hmr hmk hml hnx hxo hxk hxi hn ho hk hi
  clear h hSm hSx hSy
  have t1 : (xk == xk) = true := by simp
  have t1' : (xk != xk) = false := by simp
  have t2 : (k == k) = true := by simp
  have t2' : (k != k) = false := by simp
  unfold mat vec at *
  go_enter Try.func15, Try.ntmps15
  have HM0 := Lib.hid (((Blk.new w 25 #[.slice Am nm cm, .int .i64 mo, .int .i64 mr, .int .i64 mk, .int .i64 ml]).alloc (.cells #[.slice Ax nx cx, .int .i64 xo, .int .i64 xk, .int .i64 xi] 27)).alloc (.cells #[.slice A n c, .int .i64 off, .int .i64 k, .int .i64 inc] 27))
  have HX0 := Lib.hid ((Blk.new_ (w.alloc (.cells #[.slice Am nm cm, .int .i64 mo, .int .i64 mr, .int .i64 mk, .int .i64 ml] 25)) 27 #[.slice Ax nx cx, .int .i64 xo, .int .i64 xk, .int .i64 xi] (w.heap.size + 1) (by simp)).alloc (.cells #[.slice A n c, .int .i64 off, .int .i64 k, .int .i64 inc] 27))
  have HY0 := Lib.hid (Blk.new_ ((w.alloc (.cells #[.slice Am nm cm, .int .i64 mo, .int .i64 mr, .int .i64 mk, .int .i64 ml] 25)).alloc (.cells #[.slice Ax nx cx, .int .i64 xo, .int .i64 xk, .int .i64 xi] 27)) 27 #[.slice A n c, .int .i64 off, .int .i64 k, .int .i64 inc] (w.heap.size + 1 + 1) (by simp))
  have HB0 := Lib.hid ((((Below.refl w.heap.size w).alloc (Nat.le_refl _) (.cells #[.slice Am nm cm, .int .i64 mo, .int .i64 mr, .int .i64 mk, .int .i64 ml] 25)).alloc (by simp) (.cells #[.slice Ax nx cx, .int .i64 xo, .int .i64 xk, .int .i64 xi] 27)).alloc (by simp; omega) (.cells #[.slice A n c, .int .i64 off, .int .i64 k, .int .i64 inc] 27))
  obtain ⟨m0, m1, m2, m3, m4⟩ := cells5 HM0.out
  obtain ⟨x0, x1, x2, x3⟩ := cells4w HX0.out
  obtain ⟨y0, y1, y2, y3⟩ := cells4w HY0.out
  go_wp2_with fail
  refine (HG.out _).mono ?_
  rintro e w1 ⟨rfl, hb⟩
  have HM1 := Lib.hid (HM0.out.nxt hb)
  have HX1 := Lib.hid (HX0.out.nxt hb)
  have HY1 := Lib.hid (HY0.out.nxt hb)
  have HB1 := Lib.hid (below_nx HB0.out hb)
  clear hb m0 m1 m2 m3 m4 x0 x1 x2 x3 y0 y1 y2 y3
  obtain ⟨m0, m1, m2, m3, m4⟩ := cells5 HM1.out
  obtain ⟨x0, x1, x2, x3⟩ := cells4w HX1.out
  obtain ⟨y0, y1, y2, y3⟩ := cells4w HY1.out
  go_wp2_with fail
  refine (HRx.out _).mono ?_
  rintro e w2 ⟨rfl, hb⟩
  have HM2 := Lib.hid (HM1.out.nxt hb)
  have HX2 := Lib.hid (HX1.out.nxt hb)
  have HY2 := Lib.hid (HY1.out.nxt hb)
  have HB2 := Lib.hid (below_nx HB1.out hb)
  clear hb m0 m1 m2 m3 m4 x0 x1 x2 x3 y0 y1 y2 y3
  obtain ⟨m0, m1, m2, m3, m4⟩ := cells5 HM2.out
  obtain ⟨x0, x1, x2, x3⟩ := cells4w HX2.out
  obtain ⟨y0, y1, y2, y3⟩ := cells4w HY2.out
  go_wp2_with fail
  refine (HRy.out _).mono ?_
  rintro e w3 ⟨rfl, hb⟩
  have HM3 := Lib.hid (HM2.out.nxt hb)
  have HX3 := Lib.hid (HX2.out.nxt hb)
  have HY3 := Lib.hid (HY2.out.nxt hb)
  have HB3 := Lib.hid (below_nx HB2.out hb)
  clear hb m0 m1 m2 m3 m4 x0 x1 x2 x3 y0 y1 y2 y3
  obtain ⟨m0, m1, m2, m3, m4⟩ := cells5 HM3.out
  obtain ⟨x0, x1, x2, x3⟩ := cells4w HX3.out
  obtain ⟨y0, y1, y2, y3⟩ := cells4w HY3.out
  go_wp2_with fail
  refine (HSy.out _).mono ?_
  rintro e w4 ⟨rfl, hb⟩
  have HM4 := Lib.hid (HM3.out.nxt hb)
  have HX4 := Lib.hid (HX3.out.nxt hb)
  have HY4 := Lib.hid (HY3.out.nxt hb)
  have HB4 := Lib.hid (below_nx HB3.out hb)
  clear hb m0 m1 m2 m3 m4 x0 x1 x2 x3 y0 y1 y2 y3
  obtain ⟨m0, m1, m2, m3, m4⟩ := cells5 HM4.out
  obtain ⟨x0, x1, x2, x3⟩ := cells4w HX4.out
  obtain ⟨y0, y1, y2, y3⟩ := cells4w HY4.out
  go_wp2_with fail
  refine (HSm.out _).mono ?_
  rintro e w5 ⟨rfl, hb⟩
  have HM5 := Lib.hid (HM4.out.nxt hb)
  have HX5 := Lib.hid (HX4.out.nxt hb)
  have HY5 := Lib.hid (HY4.out.nxt hb)
  have HB5 := Lib.hid (below_nx HB4.out hb)
  clear hb m0 m1 m2 m3 m4 x0 x1 x2 x3 y0 y1 y2 y3
  obtain ⟨m0, m1, m2, m3, m4⟩ := cells5 HM5.out
  obtain ⟨x0, x1, x2, x3⟩ := cells4w HX5.out
  obtain ⟨y0, y1, y2, y3⟩ := cells4w HY5.out
  go_wp2_with fail
  refine (HSx.out _).mono ?_
  rintro e w6 ⟨rfl, hb⟩
  have HM6 := Lib.hid (HM5.out.nxt hb)
  have HX6 := Lib.hid (HX5.out.nxt hb)
  have HY6 := Lib.hid (HY5.out.nxt hb)
  have HB6 := Lib.hid (below_nx HB5.out hb)
  clear hb m0 m1 m2 m3 m4 x0 x1 x2 x3 y0 y1 y2 y3
  obtain ⟨m0, m1, m2, m3, m4⟩ := cells5 HM6.out
  obtain ⟨x0, x1, x2, x3⟩ := cells4w HX6.out
  obtain ⟨y0, y1, y2, y3⟩ := cells4w HY6.out
  go_wp2_with fail
  go_ret
  exact ⟨rfl, HB6.out⟩

set_option maxHeartbeats 2000000 in
theorem rcheck_1t (Am : Option Addr) (nm cm : Nat) (mo mr mk ml : Int) (Ax : Option Addr) (nx cx : Nat) (xo xk xi : Int) (A : Option Addr) (n c : Nat) (off k inc : Int) (m1 m2 x1 x2 y1 y2 : Int) (w : World) (hnm : nm < 9223372036854775808) (hmo : I64 mo) (hmr : I64 mr) (hmk : I64 mk) (hml : I64 ml) (hnx : nx < 9223372036854775808) (hxo : I64 xo) (hxk : I64 xk) (hxi : I64 xi) (hn : n < 9223372036854775808) (ho : I64 off) (hk : I64 k) (hi : I64 inc) (h : (matB nm mo mr mk ml && vecB nx xo xk xi && vecB n off k inc) = true)
    (hSm : ∀ W, Calls Try.prog 49 #[mat Am nm cm mo mr mk ml] W fun e w' => e = .returned (.tuple #[.int .i64 m1, .int .i64 m2]) ∧ Below W.heap.size W w')
    (hSx : ∀ W, Calls Try.prog 48 #[vec Ax nx cx xo xk xi] W fun e w' => e = .returned (.tuple #[.int .i64 x1, .int .i64 x2]) ∧ Below W.heap.size W w')
    (hSy : ∀ W, Calls Try.prog 48 #[vec A n c off k inc] W fun e w' => e = .returned (.tuple #[.int .i64 y1, .int .i64 y2]) ∧ Below W.heap.size W w') (hs : spB y1 y2 m1 m2 = true) :
    Calls Try.prog 15 #[mat Am nm cm mo mr mk ml, .int .i64 k, .int .i64 xk, vec Ax nx cx xo xk xi, vec A n c off k inc, .int .i64 1] w fun e w' => e = .returned (.int .i64 2) ∧ Below w.heap.size w w' := by
  have HG := Lib.hid (fun W => rgood_any Am nm cm mo mr mk ml W hnm hmo hmr hmk hml)
  have HRx := Lib.hid (fun W => rright_any Ax nx cx xo xk xi W hnx hxo hxk hxi)
  have HRy := Lib.hid (fun W => rright_any A n c off k inc W hn ho hk hi)
  simp only [Bool.and_eq_true] at h
  rw [h.1.1] at HG
  rw [h.1.2] at HRx
  rw [h.2] at HRy
  have HSm := Lib.hid hSm
  have HSx := Lib.hid hSx
  have HSy := Lib.hid hSy
  have HSp := Lib.hid (fun W => spans_any y1 y2 m1 m2 W)
  rw [hs] at HSp
  clear hs
  clear hnm hmo hmr hmk hml hnx hxo hxk hxi hn ho hk hi
  clear h hSm hSx hSy
  have t1 : (xk == xk) = true := by simp
  have t1' : (xk != xk) = false := by simp
  have t2 : (k == k) = true := by simp
  have t2' : (k != k) = false := by simp
  unfold mat vec at *
  go_enter Try.func15, Try.ntmps15
  have HM0 := Lib.hid (((Blk.new w 25 #[.slice Am nm cm, .int .i64 mo, .int .i64 mr, .int .i64 mk, .int .i64 ml]).alloc (.cells #[.slice Ax nx cx, .int .i64 xo, .int .i64 xk, .int .i64 xi] 27)).alloc (.cells #[.slice A n c, .int .i64 off, .int .i64 k, .int .i64 inc] 27))
  have HX0 := Lib.hid ((Blk.new_ (w.alloc (.cells #[.slice Am nm cm, .int .i64 mo, .int .i64 mr, .int .i64 mk, .int .i64 ml] 25)) 27 #[.slice Ax nx cx, .int .i64 xo, .int .i64 xk, .int .i64 xi] (w.heap.size + 1) (by simp)).alloc (.cells #[.slice A n c, .int .i64 off, .int .i64 k, .int .i64 inc] 27))
  have HY0 := Lib.hid (Blk.new_ ((w.alloc (.cells #[.slice Am nm cm, .int .i64 mo, .int .i64 mr, .int .i64 mk, .int .i64 ml] 25)).alloc (.cells #[.slice Ax nx cx, .int .i64 xo, .int .i64 xk, .int .i64 xi] 27)) 27 #[.slice A n c, .int .i64 off, .int .i64 k, .int .i64 inc] (w.heap.size + 1 + 1) (by simp))
  have HB0 := Lib.hid ((((Below.refl w.heap.size w).alloc (Nat.le_refl _) (.cells #[.slice Am nm cm, .int .i64 mo, .int .i64 mr, .int .i64 mk, .int .i64 ml] 25)).alloc (by simp) (.cells #[.slice Ax nx cx, .int .i64 xo, .int .i64 xk, .int .i64 xi] 27)).alloc (by simp; omega) (.cells #[.slice A n c, .int .i64 off, .int .i64 k, .int .i64 inc] 27))
  obtain ⟨m0, m1, m2, m3, m4⟩ := cells5 HM0.out
  obtain ⟨x0, x1, x2, x3⟩ := cells4w HX0.out
  obtain ⟨y0, y1, y2, y3⟩ := cells4w HY0.out
  go_wp2_with fail
  refine (HG.out _).mono ?_
  rintro e w1 ⟨rfl, hb⟩
  have HM1 := Lib.hid (HM0.out.nxt hb)
  have HX1 := Lib.hid (HX0.out.nxt hb)
  have HY1 := Lib.hid (HY0.out.nxt hb)
  have HB1 := Lib.hid (below_nx HB0.out hb)
  clear hb m0 m1 m2 m3 m4 x0 x1 x2 x3 y0 y1 y2 y3
  obtain ⟨m0, m1, m2, m3, m4⟩ := cells5 HM1.out
  obtain ⟨x0, x1, x2, x3⟩ := cells4w HX1.out
  obtain ⟨y0, y1, y2, y3⟩ := cells4w HY1.out
  go_wp2_with fail
  refine (HRx.out _).mono ?_
  rintro e w2 ⟨rfl, hb⟩
  have HM2 := Lib.hid (HM1.out.nxt hb)
  have HX2 := Lib.hid (HX1.out.nxt hb)
  have HY2 := Lib.hid (HY1.out.nxt hb)
  have HB2 := Lib.hid (below_nx HB1.out hb)
  clear hb m0 m1 m2 m3 m4 x0 x1 x2 x3 y0 y1 y2 y3
  obtain ⟨m0, m1, m2, m3, m4⟩ := cells5 HM2.out
  obtain ⟨x0, x1, x2, x3⟩ := cells4w HX2.out
  obtain ⟨y0, y1, y2, y3⟩ := cells4w HY2.out
  go_wp2_with fail
  refine (HRy.out _).mono ?_
  rintro e w3 ⟨rfl, hb⟩
  have HM3 := Lib.hid (HM2.out.nxt hb)
  have HX3 := Lib.hid (HX2.out.nxt hb)
  have HY3 := Lib.hid (HY2.out.nxt hb)
  have HB3 := Lib.hid (below_nx HB2.out hb)
  clear hb m0 m1 m2 m3 m4 x0 x1 x2 x3 y0 y1 y2 y3
  obtain ⟨m0, m1, m2, m3, m4⟩ := cells5 HM3.out
  obtain ⟨x0, x1, x2, x3⟩ := cells4w HX3.out
  obtain ⟨y0, y1, y2, y3⟩ := cells4w HY3.out
  go_wp2_with fail
  refine (HSy.out _).mono ?_
  rintro e w4 ⟨rfl, hb⟩
  have HM4 := Lib.hid (HM3.out.nxt hb)
  have HX4 := Lib.hid (HX3.out.nxt hb)
  have HY4 := Lib.hid (HY3.out.nxt hb)
  have HB4 := Lib.hid (below_nx HB3.out hb)
  clear hb m0 m1 m2 m3 m4 x0 x1 x2 x3 y0 y1 y2 y3
  obtain ⟨m0, m1, m2, m3, m4⟩ := cells5 HM4.out
  obtain ⟨x0, x1, x2, x3⟩ := cells4w HX4.out
  obtain ⟨y0, y1, y2, y3⟩ := cells4w HY4.out
  go_wp2_with fail
  refine (HSm.out _).mono ?_
  rintro e w5 ⟨rfl, hb⟩
  have HM5 := Lib.hid (HM4.out.nxt hb)
  have HX5 := Lib.hid (HX4.out.nxt hb)
  have HY5 := Lib.hid (HY4.out.nxt hb)
  have HB5 := Lib.hid (below_nx HB4.out hb)
  clear hb m0 m1 m2 m3 m4 x0 x1 x2 x3 y0 y1 y2 y3
  obtain ⟨m0, m1, m2, m3, m4⟩ := cells5 HM5.out
  obtain ⟨x0, x1, x2, x3⟩ := cells4w HX5.out
  obtain ⟨y0, y1, y2, y3⟩ := cells4w HY5.out
  go_wp2_with fail
  refine (HSp.out _).mono ?_
  rintro e w' ⟨rfl, rfl⟩
  go_wp2_with fail
  go_ret
  exact ⟨rfl, HB5.out⟩

set_option maxHeartbeats 2000000 in
theorem rcheck_1f (Am : Option Addr) (nm cm : Nat) (mo mr mk ml : Int) (Ax : Option Addr) (nx cx : Nat) (xo xk xi : Int) (A : Option Addr) (n c : Nat) (off k inc : Int) (m1 m2 x1 x2 y1 y2 : Int) (w : World) (hnm : nm < 9223372036854775808) (hmo : I64 mo) (hmr : I64 mr) (hmk : I64 mk) (hml : I64 ml) (hnx : nx < 9223372036854775808) (hxo : I64 xo) (hxk : I64 xk) (hxi : I64 xi) (hn : n < 9223372036854775808) (ho : I64 off) (hk : I64 k) (hi : I64 inc) (h : (matB nm mo mr mk ml && vecB nx xo xk xi && vecB n off k inc) = true)
    (hSm : ∀ W, Calls Try.prog 49 #[mat Am nm cm mo mr mk ml] W fun e w' => e = .returned (.tuple #[.int .i64 m1, .int .i64 m2]) ∧ Below W.heap.size W w')
    (hSx : ∀ W, Calls Try.prog 48 #[vec Ax nx cx xo xk xi] W fun e w' => e = .returned (.tuple #[.int .i64 x1, .int .i64 x2]) ∧ Below W.heap.size W w')
    (hSy : ∀ W, Calls Try.prog 48 #[vec A n c off k inc] W fun e w' => e = .returned (.tuple #[.int .i64 y1, .int .i64 y2]) ∧ Below W.heap.size W w') (hs : spB y1 y2 m1 m2 = false) :
    Calls Try.prog 15 #[mat Am nm cm mo mr mk ml, .int .i64 k, .int .i64 xk, vec Ax nx cx xo xk xi, vec A n c off k inc, .int .i64 1] w fun e w' => e = .returned (.int .i64 0) ∧ Below w.heap.size w w' := by
  have HG := Lib.hid (fun W => rgood_any Am nm cm mo mr mk ml W hnm hmo hmr hmk hml)
  have HRx := Lib.hid (fun W => rright_any Ax nx cx xo xk xi W hnx hxo hxk hxi)
  have HRy := Lib.hid (fun W => rright_any A n c off k inc W hn ho hk hi)
  simp only [Bool.and_eq_true] at h
  rw [h.1.1] at HG
  rw [h.1.2] at HRx
  rw [h.2] at HRy
  have HSm := Lib.hid hSm
  have HSx := Lib.hid hSx
  have HSy := Lib.hid hSy
  have HSp := Lib.hid (fun W => spans_any y1 y2 m1 m2 W)
  rw [hs] at HSp
  clear hs
  clear hnm hmo hmr hmk hml hnx hxo hxk hxi hn ho hk hi
  clear h hSm hSx hSy
  have t1 : (xk == xk) = true := by simp
  have t1' : (xk != xk) = false := by simp
  have t2 : (k == k) = true := by simp
  have t2' : (k != k) = false := by simp
  unfold mat vec at *
  go_enter Try.func15, Try.ntmps15
  have HM0 := Lib.hid (((Blk.new w 25 #[.slice Am nm cm, .int .i64 mo, .int .i64 mr, .int .i64 mk, .int .i64 ml]).alloc (.cells #[.slice Ax nx cx, .int .i64 xo, .int .i64 xk, .int .i64 xi] 27)).alloc (.cells #[.slice A n c, .int .i64 off, .int .i64 k, .int .i64 inc] 27))
  have HX0 := Lib.hid ((Blk.new_ (w.alloc (.cells #[.slice Am nm cm, .int .i64 mo, .int .i64 mr, .int .i64 mk, .int .i64 ml] 25)) 27 #[.slice Ax nx cx, .int .i64 xo, .int .i64 xk, .int .i64 xi] (w.heap.size + 1) (by simp)).alloc (.cells #[.slice A n c, .int .i64 off, .int .i64 k, .int .i64 inc] 27))
  have HY0 := Lib.hid (Blk.new_ ((w.alloc (.cells #[.slice Am nm cm, .int .i64 mo, .int .i64 mr, .int .i64 mk, .int .i64 ml] 25)).alloc (.cells #[.slice Ax nx cx, .int .i64 xo, .int .i64 xk, .int .i64 xi] 27)) 27 #[.slice A n c, .int .i64 off, .int .i64 k, .int .i64 inc] (w.heap.size + 1 + 1) (by simp))
  have HB0 := Lib.hid ((((Below.refl w.heap.size w).alloc (Nat.le_refl _) (.cells #[.slice Am nm cm, .int .i64 mo, .int .i64 mr, .int .i64 mk, .int .i64 ml] 25)).alloc (by simp) (.cells #[.slice Ax nx cx, .int .i64 xo, .int .i64 xk, .int .i64 xi] 27)).alloc (by simp; omega) (.cells #[.slice A n c, .int .i64 off, .int .i64 k, .int .i64 inc] 27))
  obtain ⟨m0, m1, m2, m3, m4⟩ := cells5 HM0.out
  obtain ⟨x0, x1, x2, x3⟩ := cells4w HX0.out
  obtain ⟨y0, y1, y2, y3⟩ := cells4w HY0.out
  go_wp2_with fail
  refine (HG.out _).mono ?_
  rintro e w1 ⟨rfl, hb⟩
  have HM1 := Lib.hid (HM0.out.nxt hb)
  have HX1 := Lib.hid (HX0.out.nxt hb)
  have HY1 := Lib.hid (HY0.out.nxt hb)
  have HB1 := Lib.hid (below_nx HB0.out hb)
  clear hb m0 m1 m2 m3 m4 x0 x1 x2 x3 y0 y1 y2 y3
  obtain ⟨m0, m1, m2, m3, m4⟩ := cells5 HM1.out
  obtain ⟨x0, x1, x2, x3⟩ := cells4w HX1.out
  obtain ⟨y0, y1, y2, y3⟩ := cells4w HY1.out
  go_wp2_with fail
  refine (HRx.out _).mono ?_
  rintro e w2 ⟨rfl, hb⟩
  have HM2 := Lib.hid (HM1.out.nxt hb)
  have HX2 := Lib.hid (HX1.out.nxt hb)
  have HY2 := Lib.hid (HY1.out.nxt hb)
  have HB2 := Lib.hid (below_nx HB1.out hb)
  clear hb m0 m1 m2 m3 m4 x0 x1 x2 x3 y0 y1 y2 y3
  obtain ⟨m0, m1, m2, m3, m4⟩ := cells5 HM2.out
  obtain ⟨x0, x1, x2, x3⟩ := cells4w HX2.out
  obtain ⟨y0, y1, y2, y3⟩ := cells4w HY2.out
  go_wp2_with fail
  refine (HRy.out _).mono ?_
  rintro e w3 ⟨rfl, hb⟩
  have HM3 := Lib.hid (HM2.out.nxt hb)
  have HX3 := Lib.hid (HX2.out.nxt hb)
  have HY3 := Lib.hid (HY2.out.nxt hb)
  have HB3 := Lib.hid (below_nx HB2.out hb)
  clear hb m0 m1 m2 m3 m4 x0 x1 x2 x3 y0 y1 y2 y3
  obtain ⟨m0, m1, m2, m3, m4⟩ := cells5 HM3.out
  obtain ⟨x0, x1, x2, x3⟩ := cells4w HX3.out
  obtain ⟨y0, y1, y2, y3⟩ := cells4w HY3.out
  go_wp2_with fail
  refine (HSy.out _).mono ?_
  rintro e w4 ⟨rfl, hb⟩
  have HM4 := Lib.hid (HM3.out.nxt hb)
  have HX4 := Lib.hid (HX3.out.nxt hb)
  have HY4 := Lib.hid (HY3.out.nxt hb)
  have HB4 := Lib.hid (below_nx HB3.out hb)
  clear hb m0 m1 m2 m3 m4 x0 x1 x2 x3 y0 y1 y2 y3
  obtain ⟨m0, m1, m2, m3, m4⟩ := cells5 HM4.out
  obtain ⟨x0, x1, x2, x3⟩ := cells4w HX4.out
  obtain ⟨y0, y1, y2, y3⟩ := cells4w HY4.out
  go_wp2_with fail
  refine (HSm.out _).mono ?_
  rintro e w5 ⟨rfl, hb⟩
  have HM5 := Lib.hid (HM4.out.nxt hb)
  have HX5 := Lib.hid (HX4.out.nxt hb)
  have HY5 := Lib.hid (HY4.out.nxt hb)
  have HB5 := Lib.hid (below_nx HB4.out hb)
  clear hb m0 m1 m2 m3 m4 x0 x1 x2 x3 y0 y1 y2 y3
  obtain ⟨m0, m1, m2, m3, m4⟩ := cells5 HM5.out
  obtain ⟨x0, x1, x2, x3⟩ := cells4w HX5.out
  obtain ⟨y0, y1, y2, y3⟩ := cells4w HY5.out
  go_wp2_with fail
  refine (HSp.out _).mono ?_
  rintro e w' ⟨rfl, rfl⟩
  go_wp2_with fail
  refine (HSx.out _).mono ?_
  rintro e w6 ⟨rfl, hb⟩
  have HM6 := Lib.hid (HM5.out.nxt hb)
  have HX6 := Lib.hid (HX5.out.nxt hb)
  have HY6 := Lib.hid (HY5.out.nxt hb)
  have HB6 := Lib.hid (below_nx HB5.out hb)
  clear hb m0 m1 m2 m3 m4 x0 x1 x2 x3 y0 y1 y2 y3
  obtain ⟨m0, m1, m2, m3, m4⟩ := cells5 HM6.out
  obtain ⟨x0, x1, x2, x3⟩ := cells4w HX6.out
  obtain ⟨y0, y1, y2, y3⟩ := cells4w HY6.out
  go_wp2_with fail
  go_ret
  exact ⟨rfl, HB6.out⟩

set_option maxHeartbeats 2000000 in
theorem rcheck_2t (Am : Option Addr) (nm cm : Nat) (mo mr mk ml : Int) (Ax : Option Addr) (nx cx : Nat) (xo xk xi : Int) (A : Option Addr) (n c : Nat) (off k inc : Int) (m1 m2 x1 x2 y1 y2 : Int) (w : World) (hnm : nm < 9223372036854775808) (hmo : I64 mo) (hmr : I64 mr) (hmk : I64 mk) (hml : I64 ml) (hnx : nx < 9223372036854775808) (hxo : I64 xo) (hxk : I64 xk) (hxi : I64 xi) (hn : n < 9223372036854775808) (ho : I64 off) (hk : I64 k) (hi : I64 inc) (h : (matB nm mo mr mk ml && vecB nx xo xk xi && vecB n off k inc) = true)
    (hSm : ∀ W, Calls Try.prog 49 #[mat Am nm cm mo mr mk ml] W fun e w' => e = .returned (.tuple #[.int .i64 m1, .int .i64 m2]) ∧ Below W.heap.size W w')
    (hSx : ∀ W, Calls Try.prog 48 #[vec Ax nx cx xo xk xi] W fun e w' => e = .returned (.tuple #[.int .i64 x1, .int .i64 x2]) ∧ Below W.heap.size W w')
    (hSy : ∀ W, Calls Try.prog 48 #[vec A n c off k inc] W fun e w' => e = .returned (.tuple #[.int .i64 y1, .int .i64 y2]) ∧ Below W.heap.size W w') (hs : spB y1 y2 x1 x2 = true) :
    Calls Try.prog 15 #[mat Am nm cm mo mr mk ml, .int .i64 k, .int .i64 xk, vec Ax nx cx xo xk xi, vec A n c off k inc, .int .i64 2] w fun e w' => e = .returned (.int .i64 2) ∧ Below w.heap.size w w' := by
  have HG := Lib.hid (fun W => rgood_any Am nm cm mo mr mk ml W hnm hmo hmr hmk hml)
  have HRx := Lib.hid (fun W => rright_any Ax nx cx xo xk xi W hnx hxo hxk hxi)
  have HRy := Lib.hid (fun W => rright_any A n c off k inc W hn ho hk hi)
  simp only [Bool.and_eq_true] at h
  rw [h.1.1] at HG
  rw [h.1.2] at HRx
  rw [h.2] at HRy
  have HSm := Lib.hid hSm
  have HSx := Lib.hid hSx
  have HSy := Lib.hid hSy
  have HSp := Lib.hid (fun W => spans_any y1 y2 x1 x2 W)
  rw [hs] at HSp
  clear hs
  clear hnm hmo hmr hmk hml hnx hxo hxk hxi hn ho hk hi
  clear h hSm hSx hSy
  have t1 : (xk == xk) = true := by simp
  have t1' : (xk != xk) = false := by simp
  have t2 : (k == k) = true := by simp
  have t2' : (k != k) = false := by simp
  unfold mat vec at *
  go_enter Try.func15, Try.ntmps15
  have HM0 := Lib.hid (((Blk.new w 25 #[.slice Am nm cm, .int .i64 mo, .int .i64 mr, .int .i64 mk, .int .i64 ml]).alloc (.cells #[.slice Ax nx cx, .int .i64 xo, .int .i64 xk, .int .i64 xi] 27)).alloc (.cells #[.slice A n c, .int .i64 off, .int .i64 k, .int .i64 inc] 27))
  have HX0 := Lib.hid ((Blk.new_ (w.alloc (.cells #[.slice Am nm cm, .int .i64 mo, .int .i64 mr, .int .i64 mk, .int .i64 ml] 25)) 27 #[.slice Ax nx cx, .int .i64 xo, .int .i64 xk, .int .i64 xi] (w.heap.size + 1) (by simp)).alloc (.cells #[.slice A n c, .int .i64 off, .int .i64 k, .int .i64 inc] 27))
  have HY0 := Lib.hid (Blk.new_ ((w.alloc (.cells #[.slice Am nm cm, .int .i64 mo, .int .i64 mr, .int .i64 mk, .int .i64 ml] 25)).alloc (.cells #[.slice Ax nx cx, .int .i64 xo, .int .i64 xk, .int .i64 xi] 27)) 27 #[.slice A n c, .int .i64 off, .int .i64 k, .int .i64 inc] (w.heap.size + 1 + 1) (by simp))
  have HB0 := Lib.hid ((((Below.refl w.heap.size w).alloc (Nat.le_refl _) (.cells #[.slice Am nm cm, .int .i64 mo, .int .i64 mr, .int .i64 mk, .int .i64 ml] 25)).alloc (by simp) (.cells #[.slice Ax nx cx, .int .i64 xo, .int .i64 xk, .int .i64 xi] 27)).alloc (by simp; omega) (.cells #[.slice A n c, .int .i64 off, .int .i64 k, .int .i64 inc] 27))
  obtain ⟨m0, m1, m2, m3, m4⟩ := cells5 HM0.out
  obtain ⟨x0, x1, x2, x3⟩ := cells4w HX0.out
  obtain ⟨y0, y1, y2, y3⟩ := cells4w HY0.out
  go_wp2_with fail
  refine (HG.out _).mono ?_
  rintro e w1 ⟨rfl, hb⟩
  have HM1 := Lib.hid (HM0.out.nxt hb)
  have HX1 := Lib.hid (HX0.out.nxt hb)
  have HY1 := Lib.hid (HY0.out.nxt hb)
  have HB1 := Lib.hid (below_nx HB0.out hb)
  clear hb m0 m1 m2 m3 m4 x0 x1 x2 x3 y0 y1 y2 y3
  obtain ⟨m0, m1, m2, m3, m4⟩ := cells5 HM1.out
  obtain ⟨x0, x1, x2, x3⟩ := cells4w HX1.out
  obtain ⟨y0, y1, y2, y3⟩ := cells4w HY1.out
  go_wp2_with fail
  refine (HRx.out _).mono ?_
  rintro e w2 ⟨rfl, hb⟩
  have HM2 := Lib.hid (HM1.out.nxt hb)
  have HX2 := Lib.hid (HX1.out.nxt hb)
  have HY2 := Lib.hid (HY1.out.nxt hb)
  have HB2 := Lib.hid (below_nx HB1.out hb)
  clear hb m0 m1 m2 m3 m4 x0 x1 x2 x3 y0 y1 y2 y3
  obtain ⟨m0, m1, m2, m3, m4⟩ := cells5 HM2.out
  obtain ⟨x0, x1, x2, x3⟩ := cells4w HX2.out
  obtain ⟨y0, y1, y2, y3⟩ := cells4w HY2.out
  go_wp2_with fail
  refine (HRy.out _).mono ?_
  rintro e w3 ⟨rfl, hb⟩
  have HM3 := Lib.hid (HM2.out.nxt hb)
  have HX3 := Lib.hid (HX2.out.nxt hb)
  have HY3 := Lib.hid (HY2.out.nxt hb)
  have HB3 := Lib.hid (below_nx HB2.out hb)
  clear hb m0 m1 m2 m3 m4 x0 x1 x2 x3 y0 y1 y2 y3
  obtain ⟨m0, m1, m2, m3, m4⟩ := cells5 HM3.out
  obtain ⟨x0, x1, x2, x3⟩ := cells4w HX3.out
  obtain ⟨y0, y1, y2, y3⟩ := cells4w HY3.out
  go_wp2_with fail
  refine (HSy.out _).mono ?_
  rintro e w4 ⟨rfl, hb⟩
  have HM4 := Lib.hid (HM3.out.nxt hb)
  have HX4 := Lib.hid (HX3.out.nxt hb)
  have HY4 := Lib.hid (HY3.out.nxt hb)
  have HB4 := Lib.hid (below_nx HB3.out hb)
  clear hb m0 m1 m2 m3 m4 x0 x1 x2 x3 y0 y1 y2 y3
  obtain ⟨m0, m1, m2, m3, m4⟩ := cells5 HM4.out
  obtain ⟨x0, x1, x2, x3⟩ := cells4w HX4.out
  obtain ⟨y0, y1, y2, y3⟩ := cells4w HY4.out
  go_wp2_with fail
  refine (HSm.out _).mono ?_
  rintro e w5 ⟨rfl, hb⟩
  have HM5 := Lib.hid (HM4.out.nxt hb)
  have HX5 := Lib.hid (HX4.out.nxt hb)
  have HY5 := Lib.hid (HY4.out.nxt hb)
  have HB5 := Lib.hid (below_nx HB4.out hb)
  clear hb m0 m1 m2 m3 m4 x0 x1 x2 x3 y0 y1 y2 y3
  obtain ⟨m0, m1, m2, m3, m4⟩ := cells5 HM5.out
  obtain ⟨x0, x1, x2, x3⟩ := cells4w HX5.out
  obtain ⟨y0, y1, y2, y3⟩ := cells4w HY5.out
  go_wp2_with fail
  refine (HSx.out _).mono ?_
  rintro e w6 ⟨rfl, hb⟩
  have HM6 := Lib.hid (HM5.out.nxt hb)
  have HX6 := Lib.hid (HX5.out.nxt hb)
  have HY6 := Lib.hid (HY5.out.nxt hb)
  have HB6 := Lib.hid (below_nx HB5.out hb)
  clear hb m0 m1 m2 m3 m4 x0 x1 x2 x3 y0 y1 y2 y3
  obtain ⟨m0, m1, m2, m3, m4⟩ := cells5 HM6.out
  obtain ⟨x0, x1, x2, x3⟩ := cells4w HX6.out
  obtain ⟨y0, y1, y2, y3⟩ := cells4w HY6.out
  go_wp2_with fail
  refine (HSp.out _).mono ?_
  rintro e w' ⟨rfl, rfl⟩
  go_wp2_with fail
  go_ret
  exact ⟨rfl, HB6.out⟩

set_option maxHeartbeats 2000000 in
theorem rcheck_2f (Am : Option Addr) (nm cm : Nat) (mo mr mk ml : Int) (Ax : Option Addr) (nx cx : Nat) (xo xk xi : Int) (A : Option Addr) (n c : Nat) (off k inc : Int) (m1 m2 x1 x2 y1 y2 : Int) (w : World) (hnm : nm < 9223372036854775808) (hmo : I64 mo) (hmr : I64 mr) (hmk : I64 mk) (hml : I64 ml) (hnx : nx < 9223372036854775808) (hxo : I64 xo) (hxk : I64 xk) (hxi : I64 xi) (hn : n < 9223372036854775808) (ho : I64 off) (hk : I64 k) (hi : I64 inc) (h : (matB nm mo mr mk ml && vecB nx xo xk xi && vecB n off k inc) = true)
    (hSm : ∀ W, Calls Try.prog 49 #[mat Am nm cm mo mr mk ml] W fun e w' => e = .returned (.tuple #[.int .i64 m1, .int .i64 m2]) ∧ Below W.heap.size W w')
    (hSx : ∀ W, Calls Try.prog 48 #[vec Ax nx cx xo xk xi] W fun e w' => e = .returned (.tuple #[.int .i64 x1, .int .i64 x2]) ∧ Below W.heap.size W w')
    (hSy : ∀ W, Calls Try.prog 48 #[vec A n c off k inc] W fun e w' => e = .returned (.tuple #[.int .i64 y1, .int .i64 y2]) ∧ Below W.heap.size W w') (hs : spB y1 y2 x1 x2 = false) :
    Calls Try.prog 15 #[mat Am nm cm mo mr mk ml, .int .i64 k, .int .i64 xk, vec Ax nx cx xo xk xi, vec A n c off k inc, .int .i64 2] w fun e w' => e = .returned (.int .i64 0) ∧ Below w.heap.size w w' := by
  have HG := Lib.hid (fun W => rgood_any Am nm cm mo mr mk ml W hnm hmo hmr hmk hml)
  have HRx := Lib.hid (fun W => rright_any Ax nx cx xo xk xi W hnx hxo hxk hxi)
  have HRy := Lib.hid (fun W => rright_any A n c off k inc W hn ho hk hi)
  simp only [Bool.and_eq_true] at h
  rw [h.1.1] at HG
  rw [h.1.2] at HRx
  rw [h.2] at HRy
  have HSm := Lib.hid hSm
  have HSx := Lib.hid hSx
  have HSy := Lib.hid hSy
  have HSp := Lib.hid (fun W => spans_any y1 y2 x1 x2 W)
  rw [hs] at HSp
  clear hs
  clear hnm hmo hmr hmk hml hnx hxo hxk hxi hn ho hk hi
  clear h hSm hSx hSy
  have t1 : (xk == xk) = true := by simp
  have t1' : (xk != xk) = false := by simp
  have t2 : (k == k) = true := by simp
  have t2' : (k != k) = false := by simp
  unfold mat vec at *
  go_enter Try.func15, Try.ntmps15
  have HM0 := Lib.hid (((Blk.new w 25 #[.slice Am nm cm, .int .i64 mo, .int .i64 mr, .int .i64 mk, .int .i64 ml]).alloc (.cells #[.slice Ax nx cx, .int .i64 xo, .int .i64 xk, .int .i64 xi] 27)).alloc (.cells #[.slice A n c, .int .i64 off, .int .i64 k, .int .i64 inc] 27))
  have HX0 := Lib.hid ((Blk.new_ (w.alloc (.cells #[.slice Am nm cm, .int .i64 mo, .int .i64 mr, .int .i64 mk, .int .i64 ml] 25)) 27 #[.slice Ax nx cx, .int .i64 xo, .int .i64 xk, .int .i64 xi] (w.heap.size + 1) (by simp)).alloc (.cells #[.slice A n c, .int .i64 off, .int .i64 k, .int .i64 inc] 27))
  have HY0 := Lib.hid (Blk.new_ ((w.alloc (.cells #[.slice Am nm cm, .int .i64 mo, .int .i64 mr, .int .i64 mk, .int .i64 ml] 25)).alloc (.cells #[.slice Ax nx cx, .int .i64 xo, .int .i64 xk, .int .i64 xi] 27)) 27 #[.slice A n c, .int .i64 off, .int .i64 k, .int .i64 inc] (w.heap.size + 1 + 1) (by simp))
  have HB0 := Lib.hid ((((Below.refl w.heap.size w).alloc (Nat.le_refl _) (.cells #[.slice Am nm cm, .int .i64 mo, .int .i64 mr, .int .i64 mk, .int .i64 ml] 25)).alloc (by simp) (.cells #[.slice Ax nx cx, .int .i64 xo, .int .i64 xk, .int .i64 xi] 27)).alloc (by simp; omega) (.cells #[.slice A n c, .int .i64 off, .int .i64 k, .int .i64 inc] 27))
  obtain ⟨m0, m1, m2, m3, m4⟩ := cells5 HM0.out
  obtain ⟨x0, x1, x2, x3⟩ := cells4w HX0.out
  obtain ⟨y0, y1, y2, y3⟩ := cells4w HY0.out
  go_wp2_with fail
  refine (HG.out _).mono ?_
  rintro e w1 ⟨rfl, hb⟩
  have HM1 := Lib.hid (HM0.out.nxt hb)
  have HX1 := Lib.hid (HX0.out.nxt hb)
  have HY1 := Lib.hid (HY0.out.nxt hb)
  have HB1 := Lib.hid (below_nx HB0.out hb)
  clear hb m0 m1 m2 m3 m4 x0 x1 x2 x3 y0 y1 y2 y3
  obtain ⟨m0, m1, m2, m3, m4⟩ := cells5 HM1.out
  obtain ⟨x0, x1, x2, x3⟩ := cells4w HX1.out
  obtain ⟨y0, y1, y2, y3⟩ := cells4w HY1.out
  go_wp2_with fail
  refine (HRx.out _).mono ?_
  rintro e w2 ⟨rfl, hb⟩
  have HM2 := Lib.hid (HM1.out.nxt hb)
  have HX2 := Lib.hid (HX1.out.nxt hb)
  have HY2 := Lib.hid (HY1.out.nxt hb)
  have HB2 := Lib.hid (below_nx HB1.out hb)
  clear hb m0 m1 m2 m3 m4 x0 x1 x2 x3 y0 y1 y2 y3
  obtain ⟨m0, m1, m2, m3, m4⟩ := cells5 HM2.out
  obtain ⟨x0, x1, x2, x3⟩ := cells4w HX2.out
  obtain ⟨y0, y1, y2, y3⟩ := cells4w HY2.out
  go_wp2_with fail
  refine (HRy.out _).mono ?_
  rintro e w3 ⟨rfl, hb⟩
  have HM3 := Lib.hid (HM2.out.nxt hb)
  have HX3 := Lib.hid (HX2.out.nxt hb)
  have HY3 := Lib.hid (HY2.out.nxt hb)
  have HB3 := Lib.hid (below_nx HB2.out hb)
  clear hb m0 m1 m2 m3 m4 x0 x1 x2 x3 y0 y1 y2 y3
  obtain ⟨m0, m1, m2, m3, m4⟩ := cells5 HM3.out
  obtain ⟨x0, x1, x2, x3⟩ := cells4w HX3.out
  obtain ⟨y0, y1, y2, y3⟩ := cells4w HY3.out
  go_wp2_with fail
  refine (HSy.out _).mono ?_
  rintro e w4 ⟨rfl, hb⟩
  have HM4 := Lib.hid (HM3.out.nxt hb)
  have HX4 := Lib.hid (HX3.out.nxt hb)
  have HY4 := Lib.hid (HY3.out.nxt hb)
  have HB4 := Lib.hid (below_nx HB3.out hb)
  clear hb m0 m1 m2 m3 m4 x0 x1 x2 x3 y0 y1 y2 y3
  obtain ⟨m0, m1, m2, m3, m4⟩ := cells5 HM4.out
  obtain ⟨x0, x1, x2, x3⟩ := cells4w HX4.out
  obtain ⟨y0, y1, y2, y3⟩ := cells4w HY4.out
  go_wp2_with fail
  refine (HSm.out _).mono ?_
  rintro e w5 ⟨rfl, hb⟩
  have HM5 := Lib.hid (HM4.out.nxt hb)
  have HX5 := Lib.hid (HX4.out.nxt hb)
  have HY5 := Lib.hid (HY4.out.nxt hb)
  have HB5 := Lib.hid (below_nx HB4.out hb)
  clear hb m0 m1 m2 m3 m4 x0 x1 x2 x3 y0 y1 y2 y3
  obtain ⟨m0, m1, m2, m3, m4⟩ := cells5 HM5.out
  obtain ⟨x0, x1, x2, x3⟩ := cells4w HX5.out
  obtain ⟨y0, y1, y2, y3⟩ := cells4w HY5.out
  go_wp2_with fail
  refine (HSx.out _).mono ?_
  rintro e w6 ⟨rfl, hb⟩
  have HM6 := Lib.hid (HM5.out.nxt hb)
  have HX6 := Lib.hid (HX5.out.nxt hb)
  have HY6 := Lib.hid (HY5.out.nxt hb)
  have HB6 := Lib.hid (below_nx HB5.out hb)
  clear hb m0 m1 m2 m3 m4 x0 x1 x2 x3 y0 y1 y2 y3
  obtain ⟨m0, m1, m2, m3, m4⟩ := cells5 HM6.out
  obtain ⟨x0, x1, x2, x3⟩ := cells4w HX6.out
  obtain ⟨y0, y1, y2, y3⟩ := cells4w HY6.out
  go_wp2_with fail
  refine (HSp.out _).mono ?_
  rintro e w' ⟨rfl, rfl⟩
  go_wp2_with fail
  go_ret
  exact ⟨rfl, HB6.out⟩
end Go.Proofs.Ytodoibioedelgaa
