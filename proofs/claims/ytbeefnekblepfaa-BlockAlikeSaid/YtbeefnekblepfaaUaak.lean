/-
Ger: each number of a matrix goes through what is handed in. Conditions: the matrix is right, its list the call's own, or it has no numbers.
-/
import Derived.Test.YtbeefnekblepfaaUaaj
import Derived.Shelf.Abstract
import Derived.Test.YtbeefnekblepfaaZMvF
import Derived.Test.YtbeefnekblepfaaUaac
import Derived.Laws.FloatArith
import Derived.Deep.Draws
set_option linter.unusedVariables false
set_option linter.unusedSimpArgs false
set_option linter.unnecessarySimpa false
namespace Go.Proofs.Ytbeefnekblepfaa
open Go.RowKit
attribute [local go_sem ↓] Go.wp_at_zero Go.wp_at_succ

/-- One number has been stored. -/
def StoredG (g P : Nat) (R : Nat → Prop) (wr W : World) : Prop := ∃ W' r, Below wr.heap.size wr W' ∧ W = W'.setCell ⟨g, P, none⟩ (.float .f64 r) ∧ R r
theorem frz_belowg {W W' : World} {b o : Nat} (h : W.frozen? ⟨b, o, none⟩ = false) (hlt : b < W.heap.size) (hb : Below W.heap.size W W') : W'.frozen? ⟨b, o, none⟩ = false := (hb.frozen (p := ⟨b, o, none⟩) hlt).trans h
/-- The numbers of the first columns, and the next column's first, have become what was asked. -/
def Pcl (l : List Nat) (o R C L : Nat) (P : Nat → Nat → Nat → Prop) (j i : Nat) (l' : List Nat) : Prop :=
  l'.length = l.length ∧ (∀ a, a < R → ∀ b, b < C → if b < j ∨ (b = j ∧ a < i) then P a b (l'.getD (o + a + b * L) 0) else l'.getD (o + a + b * L) 0 = l.getD (o + a + b * L) 0) ∧ ∀ x, (∀ a, a < R → ∀ b, b < C → x ≠ o + a + b * L) → l'.getD x 0 = l.getD x 0
/-- All of them have. -/
def Imr (l : List Nat) (o R C L : Nat) (P : Nat → Nat → Nat → Prop) (l' : List Nat) : Prop :=
  l'.length = l.length ∧ (∀ a, a < R → ∀ b, b < C → P a b (l'.getD (o + a + b * L) 0)) ∧ ∀ x, (∀ a, a < R → ∀ b, b < C → x ≠ o + a + b * L) → l'.getD x 0 = l.getD x 0
theorem Pcl.zero (l : List Nat) (o R C L : Nat) (P : Nat → Nat → Nat → Prop) : Pcl l o R C L P 0 0 l := ⟨rfl, fun a _ b _ => by rw [if_neg (by omega)], fun _ _ => rfl⟩
theorem Pcl.next {l l' : List Nat} {o R C L : Nat} {P : Nat → Nat → Nat → Prop} {j : Nat} (h : Pcl l o R C L P j R l') : Pcl l o R C L P (j + 1) 0 l' :=
  ⟨h.1, fun a ha b hb => by
    have := h.2.1 a ha b hb
    by_cases e : b < j ∨ (b = j ∧ a < R)
    · rw [if_pos e] at this; rw [if_pos (by omega)]; exact this
    · rw [if_neg e] at this; rw [if_neg (by omega)]; exact this, h.2.2⟩
theorem Pcl.done {l l' : List Nat} {o R C L : Nat} {P : Nat → Nat → Nat → Prop} (h : Pcl l o R C L P C 0 l') : Imr l o R C L P l' :=
  ⟨h.1, fun a ha b hb => by have := h.2.1 a ha b hb; rw [if_pos (.inl hb)] at this; exact this, h.2.2⟩
theorem Pcl.was {l l' : List Nat} {o R C L : Nat} {P : Nat → Nat → Nat → Prop} {i j : Nat} (h : Pcl l o R C L P j i l') (hi : i < R) (hj : j < C) : l'.getD (o + i + j * L) 0 = l.getD (o + i + j * L) 0 := by
  have := h.2.1 i hi j hj
  rwa [if_neg (by omega)] at this
theorem Pcl.step {l l' : List Nat} {o R C L : Nat} {P : Nat → Nat → Nat → Prop} {i j r : Nat} (h : Pcl l o R C L P j i l') (hR : R ≤ L) (hi : i < R) (hj : j < C) (hP : o + i + j * L < l.length) (hr : P i j r) : Pcl l o R C L P j (i + 1) (l'.set (o + i + j * L) r) := by
  refine ⟨by rw [List.length_set]; exact h.1, fun a ha b hb => ?_, fun x hx => ?_⟩
  · by_cases e : a = i ∧ b = j
    · obtain ⟨rfl, rfl⟩ := e
      rw [getD_set_self (by rw [h.1]; exact hP), if_pos (by omega)]
      exact hr
    · rw [getD_set_ne _ (fun e2 => e (by
        have := spots_inj (L := L) (a := i) (b := j) (a' := a) (b' := b) (by omega) (by omega) (by omega)
        exact ⟨this.1.symm, this.2.symm⟩))]
      have := h.2.1 a ha b hb
      by_cases e1 : b < j ∨ (b = j ∧ a < i)
      · rw [if_pos e1] at this; rw [if_pos (by omega)]; exact this
      · rw [if_neg e1] at this; rw [if_neg (by omega)]; exact this
  · rw [getD_set_ne _ (fun e => hx i hi j hj e.symm), h.2.2 x hx]
/-- Each number has become what was asked. -/
def Eachm (I : World → Prop) (P : Nat → Nat → Nat → Prop) (g : Nat) (l : List Nat) (o R C L : Nat) (w : World) (e : Ending) (w' : World) : Prop :=
  e = .returned (.tuple #[]) ∧ ∃ l' : List Nat, Own w' g l' ∧ Imr l o R C L P l' ∧ I w' ∧ Chg [g] w w'
theorem gr_lt {o R C L n i j : Nat} (hr : R = 0 ∨ C = 0 ∨ o + (C - 1) * L + (R - 1) < n) (hi : i < R) (hj : j < C) : o + i + j * L < n := by
  have h1 : j * L ≤ (C - 1) * L := Nat.mul_le_mul_right _ (by omega)
  omega
/-- The place, in plain numbers. -/
theorem gr_facts {o i j L n : Nat} (h : o + i + j * L < n) (hn : n < 1048576) :
    ∃ u m P : Nat, o + i + j * L = P ∧ Hid (wrap64 ((o : Int) + (i : Int)) = (u : Int) ∧ wrap64 ((j : Int) * (L : Int)) = (m : Int) ∧ wrap64 ((u : Int) + (m : Int)) = (P : Int) ∧ P < n) := by
  refine ⟨o + i, j * L, _, rfl, Lib.hid ⟨?_, ?_, ?_, h⟩⟩
  · have e : (o : Int) + (i : Int) = ((o + i : Nat) : Int) := by simp
    rw [e]; exact wrap_id (by unfold I64; omega)
  · have e : (j : Int) * (L : Int) = ((j * L : Nat) : Int) := by simp
    rw [e]; exact wrap_id (by unfold I64; omega)
  · have e : ((o + i : Nat) : Int) + ((j * L : Nat) : Int) = ((o + i + j * L : Nat) : Int) := by simp
    rw [e]; exact wrap_id (by unfold I64; omega)

end Go.Proofs.Ytbeefnekblepfaa
/-
A column of a matrix. Conditions: the matrix is right, the column is there.
-/
set_option linter.unusedVariables false
set_option linter.unusedSimpArgs false
set_option linter.unnecessarySimpa false
namespace Go.Proofs.Ytbeefnekblepfaa
open Go.RowKit
attribute [local go_sem ↓] Go.wp_at_zero Go.wp_at_succ

/-- A column's place. -/
def ncolOff (off r ld j : Int) : Int := if r = 0 then off else off + j * ld
set_option maxHeartbeats 1000000 in
theorem ncol_some (A : Option Addr) (n c : Nat) (off r k ld j : Int) (w : World) (hn : n < 9223372036854775808) (ho : I64 off) (hr : I64 r) (hk : I64 k) (hi : I64 ld) (h1 : I64 j) (hm : matB n off r k ld = true) (h : 0 ≤ j ∧ j < k) :
    Calls Try.prog 45 #[mat A n c off r k ld, .int .i64 j] w fun e w' => e = .returned (vec A n c (ncolOff off r ld j) r 1) ∧ Below w.heap.size w w' := by
  have q1 := of_decide_eq_true hm
  have hk' := hk
  have hr' := hr
  unfold I64 at hk' hr'
  have HG := Lib.hid (fun W => good_any A n c off r k ld W hn ho hr hk hi)
  rw [hm] at HG
  have HW := Lib.hid (fun W => within_any j k W)
  have hww : (decide (0 ≤ j) && decide (j < k)) = true := by simp; omega
  rw [hww] at HW
  have HPt := Lib.hid (fun W => part_some A n c off r k ld 0 j r 1 W hn ho hr hk hi (by unfold I64; omega) h1 hr (by unfold I64; omega) (by
    unfold partB
    rw [hm]
    have e1 : fitsB 0 r r = true := decide_eq_true (by omega)
    have e2 : fitsB j 1 k = true := decide_eq_true (by omega)
    rw [e1, e2]; rfl))
  have hpo : partOff off ld 0 j r 1 = ncolOff off r ld j := by
    unfold partOff ncolOff
    by_cases e : r = 0
    · rw [if_pos (by omega), if_pos e]
    · rw [if_neg (by omega), if_neg e]; omega
  rw [hpo] at HPt
  generalize ncolOff off r ld j = p at *
  clear hn ho hr hk hi h1 hm h q1 hk' hr' hpo hww
  unfold mat vec at *
  go_enter Try.func45, Try.ntmps45
  have HZ0 := Lib.hid ((Blk.new w 26 #[.slice A n c, .int .i64 off, .int .i64 r, .int .i64 k, .int .i64 ld]).alloc (.cells #[.slice none 0 0, .int .i64 0, .int .i64 0, .int .i64 0] 76))
  have HZ1 := Lib.hid (Blk.new_ (w.alloc (.cells #[.slice A n c, .int .i64 off, .int .i64 r, .int .i64 k, .int .i64 ld] 26)) 76 #[.slice none 0 0, .int .i64 0, .int .i64 0, .int .i64 0] (w.heap.size + 1) (by simp))
  have HB0 := Lib.hid (((Below.refl w.heap.size w).alloc (Nat.le_refl _) (.cells #[.slice A n c, .int .i64 off, .int .i64 r, .int .i64 k, .int .i64 ld] 26)).alloc (by simp) (.cells #[.slice none 0 0, .int .i64 0, .int .i64 0, .int .i64 0] 76))
  go_wp2_with fail
  refine (HG.out _).mono ?_
  rintro e w1 ⟨rfl, hb⟩
  have HZ2 := Lib.hid (HZ0.out.nxt hb)
  have HZ3 := Lib.hid (HZ1.out.nxt hb)
  have HB1 := Lib.hid (HB0.out.trans (hb.mono HB0.out.size))
  clear hb
  obtain ⟨c0, c1, c2, c3, c4⟩ := cells5 HZ2.out
  go_wp2_with fail
  refine (HW.out _).mono ?_
  rintro e w2 ⟨rfl, rfl⟩
  go_wp2_with fail
  have hbd : Blk w1.drew (w.heap.size + 1) 76 #[.slice none 0 0, .int .i64 0, .int .i64 0, .int .i64 0] := HZ3.out
  have hne : w.heap.size ≠ w.heap.size + 1 := by omega
  go_region_held3 (fun w' => w'.cell? ⟨w.heap.size, 0, none⟩ = some (.slice A n c) ∧ w'.cell? ⟨w.heap.size, 1, none⟩ = some (.int .i64 off) ∧ w'.cell? ⟨w.heap.size, 2, none⟩ = some (.int .i64 r) ∧ w'.cell? ⟨w.heap.size, 3, none⟩ = some (.int .i64 k) ∧ w'.cell? ⟨w.heap.size, 4, none⟩ = some (.int .i64 ld) ∧ Below w.heap.size w w')
    (first | exact ⟨c0, c1, c2, c3, c4, HB1.out.drew⟩ | (with_reducible exact held5 ‹_ ∧ _ ∧ _ ∧ _ ∧ _ ∧ Below w.heap.size w _› hbA) | exact heldW5 (R := fun W => Below w.heap.size w W) ‹_ ∧ _ ∧ _ ∧ _ ∧ _ ∧ Below w.heap.size w _› (fun b o h => cell_sets4 h _ _ _ _) hne hne hne hne hne (fun h => below_sets4 h (by omega) _ _ _ _))
    (first
      | (go_at_call 34; refine (HPt.out _).mono ?_; rintro e1 wA ⟨rfl, hbA⟩; have hbR := Blk.nxt hbd hbA; obtain ⟨r0, r1, r2, r3⟩ := cells4w hbR; obtain ⟨f0, f1, f2, f3⟩ := frozen4w hbR; skip))
  go_wp2_with fail
  obtain ⟨j0, j1, j2, j3⟩ := cells4w (Blk.store4v hbR (.slice A n c) (.int .i64 p) (.int .i64 r) (.int .i64 1))
  exact bodyPost_ret (v := .agg #[.slice A n c, .int .i64 p, .int .i64 r, .int .i64 1]) (by simp [results, Try.results45, go_sem, j0, j1, j2, j3]) rfl ⟨rfl, (‹_ ∧ _ ∧ _ ∧ _ ∧ _ ∧ Below w.heap.size w _›).2.2.2.2.2⟩


end Go.Proofs.Ytbeefnekblepfaa
/-
Sums, differences, products, quotients of floats, as a walk has them: one word up to which NaN it is. Conditions: none.
-/
set_option linter.unusedVariables false
namespace Go.Proofs.Ytbeefnekblepfaa
open Go.RowKit

/-- A NaN's word. -/
def NANW : Nat := 9221120237041090561
theorem nanw_nan : Fl.nan NANW = true := by decide
theorem nanw_lt : NANW < 18446744073709551616 := by decide
/-- The word of an operation, all that aren't numbers being one. -/
def fbin (op : BinOp) (x y : Nat) : Nat := (floatBits op .f64 x y).getD NANW
/-- r is the number z: the same word, or both are NaN. -/
def Is (r z : Nat) : Prop := r < 18446744073709551616 ∧ (r = z ∨ (Fl.nan r = true ∧ Fl.nan z = true))
theorem Is.lt {r z : Nat} (h : Is r z) : r < 18446744073709551616 := h.1
theorem Is.refl {r : Nat} (h : r < 18446744073709551616) : Is r r := ⟨h, .inl rfl⟩
theorem Is.same {r s z : Nat} (h : Is r z) (k : Is s z) : sameB r s = true := by
  unfold sameB
  rcases h with ⟨_, rfl | ⟨h1, h2⟩⟩ <;> rcases k with ⟨_, rfl | ⟨k1, k2⟩⟩ <;> simp_all
theorem Is.nan {r z : Nat} (h : Is r z) : Fl.nan r = Fl.nan z := by
  rcases h with ⟨_, rfl | ⟨h1, h2⟩⟩
  · rfl
  · rw [h1, h2]
theorem Is.eq_of {r z : Nat} (h : Is r z) (hz : Fl.nan z = false) : r = z := by
  rcases h with ⟨_, rfl | ⟨h1, h2⟩⟩
  · rfl
  · rw [hz] at h2; cases h2
theorem Is.trans {r s z : Nat} (h : Is r s) (k : Is s z) : Is r z := by
  refine ⟨h.1, ?_⟩
  rcases h with ⟨_, rfl | ⟨h1, h2⟩⟩
  · exact k.2
  · exact .inr ⟨h1, by rw [← k.nan]; exact h2⟩
theorem nan_rung {b : Nat} : Fl.nan b = true ↔ Fl.INF < Fl.rung b := by unfold Fl.nan; simp
theorem read_of_nan {b : Nat} (h : Fl.nan b = true) : Ieee.double.read b = .nan (Fl.sg b) (Fl.rung b - Fl.INF) := Fl.read_nan (nan_rung.1 h)
/-- Is it a sum, a difference, a product, a quotient? -/
def isAr : BinOp → Bool | .add => true | .sub => true | .mul => true | .quo => true | _ => false
theorem fbin_nan_left {op : BinOp} {x y : Nat} (h : Fl.nan x = true) : floatBits op .f64 x y = none := by
  have hr := read_of_nan h
  unfold floatBits
  cases op <;> simp only [FloatKind.format, Ieee.Format.add, Ieee.Format.sub, Ieee.Format.mul, Ieee.Format.div, hr] <;> (first | rfl | (cases Ieee.double.read y <;> rfl))
theorem fbin_nan_right {op : BinOp} {x y : Nat} (h : Fl.nan y = true) : floatBits op .f64 x y = none := by
  have hr := read_of_nan h
  unfold floatBits
  cases op <;> simp only [FloatKind.format, Ieee.Format.add, Ieee.Format.sub, Ieee.Format.mul, Ieee.Format.div, hr] <;> (first | rfl | (cases Ieee.double.read x <;> rfl))
theorem fbits_lt {op : BinOp} {x y r : Nat} (h : floatBits op .f64 x y = some r) : r < 18446744073709551616 := by
  have := floatBits_wf h
  simpa [Lit.wf] using this
theorem fbin_lt (op : BinOp) (x y : Nat) : fbin op x y < 18446744073709551616 := by
  unfold fbin
  cases h : floatBits op .f64 x y with
  | none => exact nanw_lt
  | some r => exact fbits_lt h
/-- r is what the operation comes to. -/
def Comes (op : BinOp) (x y r : Nat) : Prop := r < 18446744073709551616 ∧ (floatBits op .f64 x y = some r ∨ (floatBits op .f64 x y = none ∧ Fl.nan r = true))
theorem Comes.is_ {op : BinOp} {x y r a b : Nat} (h : Comes op x y r) (hx : Is x a) (hy : Is y b) : Is r (fbin op a b) := by
  refine ⟨h.1, ?_⟩
  have key : floatBits op .f64 x y = floatBits op .f64 a b := by
    rcases hx with ⟨_, rfl | ⟨h1, h2⟩⟩
    · rcases hy with ⟨_, rfl | ⟨k1, k2⟩⟩
      · rfl
      · rw [fbin_nan_right k1, fbin_nan_right k2]
    · rw [fbin_nan_left h1, fbin_nan_left h2]
  unfold fbin
  rw [← key]
  rcases h.2 with h | ⟨h, hn⟩
  · left; rw [h]; rfl
  · right; rw [h]; exact ⟨hn, nanw_nan⟩

/-! ### As the walk has them. -/
/-- The NaN that the tape gives. -/
def tapeNan (w : World) (x y : Nat) : Nat := Question.cut (.nanBits .f64 x y) (w.tape w.drawn (.nanBits .f64 x y))
theorem tapeNan_lt (w : World) (x y : Nat) : tapeNan w x y < 18446744073709551616 ∧ Fl.nan (tapeNan w x y) = true := by
  unfold tapeNan
  generalize w.tape w.drawn (.nanBits .f64 x y) = t
  have e : Question.cut (.nanBits .f64 x y) t = (t % 2) * 9223372036854775808 + (9218868437227405312 + 1 + t / 2 % 4503599627370495) := by
    show (t % 2) * 2 ^ 63 + 0x7ff0000000000000 + 1 + (t / 2) % (2 ^ 52 - 1) = _
    omega
  rw [e]
  have h1 : t % 2 < 2 := Nat.mod_lt _ (by omega)
  have h2 : t / 2 % 4503599627370495 < 4503599627370495 := Nat.mod_lt _ (by omega)
  generalize t / 2 % 4503599627370495 = q at *
  generalize t % 2 = s at *
  refine ⟨by omega, ?_⟩
  rw [nan_rung]
  unfold Fl.rung
  rw [Fl.INF_val]
  omega
/-- What the operation gives in a world. -/
def fres (op : BinOp) (w : World) (x y : Nat) : Nat := (floatBits op .f64 x y).getD (tapeNan w x y)
/-- How often it asks the tape. -/
def fdrw (op : BinOp) (x y : Nat) : Nat := if (floatBits op .f64 x y).isSome then 0 else 1
theorem fres_comes (op : BinOp) (w : World) (x y : Nat) : Comes op x y (fres op w x y) := by
  unfold fres Comes
  cases h : floatBits op .f64 x y with
  | some r => exact ⟨fbits_lt h, .inl rfl⟩
  | none => exact ⟨(tapeNan_lt w x y).1, .inr ⟨rfl, (tapeNan_lt w x y).2⟩⟩
theorem run_far (P : Program) (op : BinOp) (hop : isAr op = true) (t : TypeId) (x y : Nat) (w : World) : (binOp op t (.float .f64 x) (.float .f64 y)).run P w = .ok (.float .f64 (fres op w x y)) (w.drewN (fdrw op x y)) := by
  unfold fres fdrw
  cases h : floatBits op .f64 x y with
  | some r => exact run_float_arith w op t .f64 x y r h
  | none =>
    unfold floatBits at h
    cases op <;> simp only [isAr] at hop <;> first | (cases hop; done) | skip
    all_goals
      simp only at h
      simp only [binOp, Op.floatArith, h, tapeNan]
      rfl
theorem run_fadd (P : Program) (t : TypeId) (x y : Nat) (w : World) : (binOp .add t (.float .f64 x) (.float .f64 y)).run P w = .ok (.float .f64 (fres .add w x y)) (w.drewN (fdrw .add x y)) := run_far P .add rfl t x y w
theorem run_fsub (P : Program) (t : TypeId) (x y : Nat) (w : World) : (binOp .sub t (.float .f64 x) (.float .f64 y)).run P w = .ok (.float .f64 (fres .sub w x y)) (w.drewN (fdrw .sub x y)) := run_far P .sub rfl t x y w
theorem run_fmul (P : Program) (t : TypeId) (x y : Nat) (w : World) : (binOp .mul t (.float .f64 x) (.float .f64 y)).run P w = .ok (.float .f64 (fres .mul w x y)) (w.drewN (fdrw .mul x y)) := run_far P .mul rfl t x y w
theorem run_fquo (P : Program) (t : TypeId) (x y : Nat) (w : World) : (binOp .quo t (.float .f64 x) (.float .f64 y)).run P w = .ok (.float .f64 (fres .quo w x y)) (w.drewN (fdrw .quo x y)) := run_far P .quo rfl t x y w
attribute [go_sem] run_fadd run_fsub run_fmul run_fquo
theorem run_conv64 (P : Program) (t u : TypeId) (ht : (P.underlying t).isSome = true) (hu : P.underlying u = some (.float .f64)) (x : Nat) (w : World) : (convert t u (.float .f64 x)).run P w = .ok (.float .f64 x) w :=
  run_convert_float_float w t u .f64 .f64 x x ht hu rfl
end Go.Proofs.Ytbeefnekblepfaa
