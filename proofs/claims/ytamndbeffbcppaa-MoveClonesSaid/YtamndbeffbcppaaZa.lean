/-
Sums, differences, products, quotients of floats, as a walk has them: one word up to which NaN it is. Conditions: none.
-/
import Derived.Test.YtamndbeffbcppaaNumA
import Derived.Laws.FloatArith
import Derived.Deep.Draws
import Derived.Test.YtamndbeffbcppaaMvN
import Derived.Test.YtamndbeffbcppaaInv
set_option linter.unusedVariables false
namespace Go.Proofs.Ytamndbeffbcppaa
open Go.RowKit

/-- A NaN's word. -/
def NANW : Nat := 9221120237041090561
theorem nanw_nan : Fl.nan NANW = true := by decide
theorem nanw_lt : NANW < 18446744073709551616 := by decide
/-- The word of an operation, all that aren't numbers being one. -/
def fbin (op : BinOp) (x y : Nat) : Nat := (floatBits op .f64 x y).getD NANW
/-- r is the number z: the same word, or both are NaN. -/
def Is (r z : Nat) : Prop := r < 18446744073709551616 ∧ (r = z ∨ (Fl.nan r = true ∧ Fl.nan z = true))
theorem Is.lt {r z : Nat} (h : Is r z) : r < 18446744073709551616 := h.1
theorem Is.refl {r : Nat} (h : r < 18446744073709551616) : Is r r := ⟨h, .inl rfl⟩
theorem Is.same {r s z : Nat} (h : Is r z) (k : Is s z) : sameB r s = true := by
  unfold sameB
  rcases h with ⟨_, rfl | ⟨h1, h2⟩⟩ <;> rcases k with ⟨_, rfl | ⟨k1, k2⟩⟩ <;> simp_all
theorem Is.nan {r z : Nat} (h : Is r z) : Fl.nan r = Fl.nan z := by
  rcases h with ⟨_, rfl | ⟨h1, h2⟩⟩
  · rfl
  · rw [h1, h2]
theorem Is.eq_of {r z : Nat} (h : Is r z) (hz : Fl.nan z = false) : r = z := by
  rcases h with ⟨_, rfl | ⟨h1, h2⟩⟩
  · rfl
  · rw [hz] at h2; cases h2
theorem Is.trans {r s z : Nat} (h : Is r s) (k : Is s z) : Is r z := by
  refine ⟨h.1, ?_⟩
  rcases h with ⟨_, rfl | ⟨h1, h2⟩⟩
  · exact k.2
  · exact .inr ⟨h1, by rw [← k.nan]; exact h2⟩
theorem nan_rung {b : Nat} : Fl.nan b = true ↔ Fl.INF < Fl.rung b := by unfold Fl.nan; simp
theorem read_of_nan {b : Nat} (h : Fl.nan b = true) : Ieee.double.read b = .nan (Fl.sg b) (Fl.rung b - Fl.INF) := Fl.read_nan (nan_rung.1 h)
/-- Is it a sum, a difference, a product, a quotient? -/
def isAr : BinOp → Bool | .add => true | .sub => true | .mul => true | .quo => true | _ => false
theorem fbin_nan_left {op : BinOp} {x y : Nat} (h : Fl.nan x = true) : floatBits op .f64 x y = none := by
  have hr := read_of_nan h
  unfold floatBits
  cases op <;> simp only [FloatKind.format, Ieee.Format.add, Ieee.Format.sub, Ieee.Format.mul, Ieee.Format.div, hr] <;> (first | rfl | (cases Ieee.double.read y <;> rfl))
theorem fbin_nan_right {op : BinOp} {x y : Nat} (h : Fl.nan y = true) : floatBits op .f64 x y = none := by
  have hr := read_of_nan h
  unfold floatBits
  cases op <;> simp only [FloatKind.format, Ieee.Format.add, Ieee.Format.sub, Ieee.Format.mul, Ieee.Format.div, hr] <;> (first | rfl | (cases Ieee.double.read x <;> rfl))
theorem fbits_lt {op : BinOp} {x y r : Nat} (h : floatBits op .f64 x y = some r) : r < 18446744073709551616 := by
  have := floatBits_wf h
  simpa [Lit.wf] using this
theorem fbin_lt (op : BinOp) (x y : Nat) : fbin op x y < 18446744073709551616 := by
  unfold fbin
  cases h : floatBits op .f64 x y with
  | none => exact nanw_lt
  | some r => exact fbits_lt h
/-- r is what the operation comes to. -/
def Comes (op : BinOp) (x y r : Nat) : Prop := r < 18446744073709551616 ∧ (floatBits op .f64 x y = some r ∨ (floatBits op .f64 x y = none ∧ Fl.nan r = true))
theorem Comes.is_ {op : BinOp} {x y r a b : Nat} (h : Comes op x y r) (hx : Is x a) (hy : Is y b) : Is r (fbin op a b) := by
  refine ⟨h.1, ?_⟩
  have key : floatBits op .f64 x y = floatBits op .f64 a b := by
    rcases hx with ⟨_, rfl | ⟨h1, h2⟩⟩
    · rcases hy with ⟨_, rfl | ⟨k1, k2⟩⟩
      · rfl
      · rw [fbin_nan_right k1, fbin_nan_right k2]
    · rw [fbin_nan_left h1, fbin_nan_left h2]
  unfold fbin
  rw [← key]
  rcases h.2 with h | ⟨h, hn⟩
  · left; rw [h]; rfl
  · right; rw [h]; exact ⟨hn, nanw_nan⟩

/-! ### As the walk has them. -/
/-- The NaN that the tape gives. -/
def tapeNan (w : World) (x y : Nat) : Nat := Question.cut (.nanBits .f64 x y) (w.tape w.drawn (.nanBits .f64 x y))
theorem tapeNan_lt (w : World) (x y : Nat) : tapeNan w x y < 18446744073709551616 ∧ Fl.nan (tapeNan w x y) = true := by
  unfold tapeNan
  generalize w.tape w.drawn (.nanBits .f64 x y) = t
  have e : Question.cut (.nanBits .f64 x y) t = (t % 2) * 9223372036854775808 + (9218868437227405312 + 1 + t / 2 % 4503599627370495) := by
    show (t % 2) * 2 ^ 63 + 0x7ff0000000000000 + 1 + (t / 2) % (2 ^ 52 - 1) = _
    omega
  rw [e]
  have h1 : t % 2 < 2 := Nat.mod_lt _ (by omega)
  have h2 : t / 2 % 4503599627370495 < 4503599627370495 := Nat.mod_lt _ (by omega)
  generalize t / 2 % 4503599627370495 = q at *
  generalize t % 2 = s at *
  refine ⟨by omega, ?_⟩
  rw [nan_rung]
  unfold Fl.rung
  rw [Fl.INF_val]
  omega
/-- What the operation gives in a world. -/
def fres (op : BinOp) (w : World) (x y : Nat) : Nat := (floatBits op .f64 x y).getD (tapeNan w x y)
/-- How often it asks the tape. -/
def fdrw (op : BinOp) (x y : Nat) : Nat := if (floatBits op .f64 x y).isSome then 0 else 1
theorem fres_comes (op : BinOp) (w : World) (x y : Nat) : Comes op x y (fres op w x y) := by
  unfold fres Comes
  cases h : floatBits op .f64 x y with
  | some r => exact ⟨fbits_lt h, .inl rfl⟩
  | none => exact ⟨(tapeNan_lt w x y).1, .inr ⟨rfl, (tapeNan_lt w x y).2⟩⟩
theorem run_far (P : Program) (op : BinOp) (hop : isAr op = true) (t : TypeId) (x y : Nat) (w : World) : (binOp op t (.float .f64 x) (.float .f64 y)).run P w = .ok (.float .f64 (fres op w x y)) (w.drewN (fdrw op x y)) := by
  unfold fres fdrw
  cases h : floatBits op .f64 x y with
  | some r => exact run_float_arith w op t .f64 x y r h
  | none =>
    unfold floatBits at h
    cases op <;> simp only [isAr] at hop <;> first | (cases hop; done) | skip
    all_goals
      simp only at h
      simp only [binOp, Op.floatArith, h, tapeNan]
      rfl
theorem run_fadd (P : Program) (t : TypeId) (x y : Nat) (w : World) : (binOp .add t (.float .f64 x) (.float .f64 y)).run P w = .ok (.float .f64 (fres .add w x y)) (w.drewN (fdrw .add x y)) := run_far P .add rfl t x y w
theorem run_fsub (P : Program) (t : TypeId) (x y : Nat) (w : World) : (binOp .sub t (.float .f64 x) (.float .f64 y)).run P w = .ok (.float .f64 (fres .sub w x y)) (w.drewN (fdrw .sub x y)) := run_far P .sub rfl t x y w
theorem run_fmul (P : Program) (t : TypeId) (x y : Nat) (w : World) : (binOp .mul t (.float .f64 x) (.float .f64 y)).run P w = .ok (.float .f64 (fres .mul w x y)) (w.drewN (fdrw .mul x y)) := run_far P .mul rfl t x y w
theorem run_fquo (P : Program) (t : TypeId) (x y : Nat) (w : World) : (binOp .quo t (.float .f64 x) (.float .f64 y)).run P w = .ok (.float .f64 (fres .quo w x y)) (w.drewN (fdrw .quo x y)) := run_far P .quo rfl t x y w
attribute [go_sem] run_fadd run_fsub run_fmul run_fquo
theorem run_conv64 (P : Program) (t u : TypeId) (ht : (P.underlying t).isSome = true) (hu : P.underlying u = some (.float .f64)) (x : Nat) (w : World) : (convert t u (.float .f64 x)).run P w = .ok (.float .f64 x) w :=
  run_convert_float_float w t u .f64 .f64 x x ht hu rfl
end Go.Proofs.Ytamndbeffbcppaa
/-
Sums: what they come to; a number of a vector; |x|; sums and products of two. Conditions: as each says.
-/
set_option linter.unusedVariables false
namespace Go.Proofs.Ytamndbeffbcppaa
open Go.RowKit
attribute [local go_sem ↓] Go.wp_at_zero Go.wp_at_succ

/-- The sum of the first products, in its order. -/
def dotF (l m : List Nat) : Nat → Nat
  | 0 => 0
  | k + 1 => fbin .add (dotF l m k) (fbin .mul (l.getD k 0) (m.getD k 0))
/-- A word without its sign. -/
def absW (b : Nat) : Nat := b % 9223372036854775808
/-- The sum of the first numbers without signs. -/
def asumF (l : List Nat) : Nat → Nat
  | 0 => 0
  | k + 1 => fbin .add (asumF l k) (absW (l.getD k 0))
/-- The sum of the first numbers. -/
def sumF (l : List Nat) : Nat → Nat
  | 0 => 0
  | k + 1 => fbin .add (sumF l k) (l.getD k 0)
/-- Is a greater than b? -/
def gtB (a b : Nat) : Bool := FloatKind.f64.format.order a b == some .gt
/-- The place of the greatest of the first numbers. -/
def mostF (l : List Nat) : Nat → Nat
  | 0 => 0
  | k + 1 => if gtB (absW (l.getD k 0)) (absW (l.getD (mostF l k) 0)) then k else mostF l k
theorem mostF_lt (l : List Nat) : ∀ k, 1 ≤ k → mostF l k < k
  | 0, h => by omega
  | k + 1, _ => by
    unfold mostF
    split
    · omega
    · by_cases hk : k = 0
      · subst hk; simp [mostF]
      · have := mostF_lt l k (by omega); omega
theorem absW_lt (b : Nat) : absW b < 9223372036854775808 := Nat.mod_lt _ (by omega)
theorem is_zero : Is 0 0 := Is.refl (by omega)

theorem sat_any (A : Option Addr) (n c : Nat) (l : List Nat) (o K i k : Nat) (w : World) (hA : Row w A (f64s l)) (hl : l.length = n) (hn : n < 1048576) (hP : o + k * i < n) :
    Calls Try.prog 53 #[vec A n c o K i, .int .i64 k] w fun e w' => e = .returned (.float .f64 (l.getD (o + k * i) 0)) ∧ Below w.heap.size w w' := by
  have hPl : o + k * i < l.length := by rw [hl]; exact hP
  obtain ⟨b, x, rfl, _, hcell0⟩ := hA.at_ (f64s_get l _ hPl)
  have hv : l.getD (o + k * i) 0 = l[o + k * i] := getD_of_lt hPl
  rw [hv]
  have HB := Lib.hid ((Below.refl w.heap.size w).alloc (Nat.le_refl _) (.cells #[.slice (some ⟨b, x, none⟩) n c, .int .i64 o, .int .i64 K, .int .i64 i] 45))
  have hcell := cell_below hcell0 HB.out
  generalize l[o + k * i] = v at *
  obtain ⟨a, ha⟩ : ∃ a, k * i = a := ⟨_, rfl⟩
  obtain ⟨P, hPd⟩ : ∃ P, o + k * i = P := ⟨_, rfl⟩
  have e1 : ((k : Int) * (i : Int)) = (a : Int) := by rw [← ha]; simp
  have e2 : (o : Int) + (a : Int) = (P : Int) := by rw [← hPd, ha]; simp
  have HW := Lib.hid (wrap3 (o := o) (a := a) (P := P) (by rw [← hPd]; omega) (by rw [← ha, hPd]))
  rw [hPd] at hcell hP
  have b1 : (P : Int) < (n : Int) := by omega
  have b0 : (0 : Int) ≤ (P : Int) := by omega
  clear hPl hcell0 hv ha hPd hP hA hl
  obtain ⟨u1, u2, u3, u4⟩ := HW.out
  unfold vec
  go_enter Try.func53, Try.ntmps53
  go_wp2_with fail
  go_ret
  exact ⟨rfl, HB.out⟩

theorem times_any (x y : Nat) (w : World) : Calls Try.prog 58 #[.float .f64 x, .float .f64 y] w fun e w' => ∃ r, e = .returned (.float .f64 r) ∧ Comes .mul x y r ∧ Below w.heap.size w w' := by
  go_enter Try.func58, Try.ntmps58
  go_wp2_with fail
  go_ret
  exact ⟨_, rfl, fres_comes _ _ _ _, below_drewN (Below.refl _ _) _⟩
theorem plus_any (x y : Nat) (w : World) : Calls Try.prog 34 #[.float .f64 x, .float .f64 y] w fun e w' => ∃ r, e = .returned (.float .f64 r) ∧ Comes .add x y r ∧ Below w.heap.size w w' := by
  go_enter Try.func34, Try.ntmps34
  go_wp2_with fail
  go_ret
  exact ⟨_, rfl, fres_comes _ _ _ _, below_drewN (Below.refl _ _) _⟩

theorem mabs_any (b : Nat) (w : World) (hb : b < 18446744073709551616) : Calls Try.prog 54 #[.float .f64 b] w fun e w' => e = .returned (.float .f64 (absW b)) ∧ w = w' := by
  have e1 := bits_andNot_sign hb
  have e2 : b % 9223372036854775808 = absW b := rfl
  rw [e2] at e1
  clear e2
  generalize absW b = r at *
  go_enter Try.func54, Try.ntmps54
  go_wp2_with fail
  go_ret
  exact ⟨by simp, rfl⟩
theorem rabs_any (b : Nat) (w : World) (hb : b < 18446744073709551616) : Calls Try.prog 57 #[.float .f64 b] w fun e w' => e = .returned (.float .f64 (absW b)) ∧ w = w' := by
  have e1 : (b : Int) % 9223372036854775808 = ((absW b : Nat) : Int) := by unfold absW; omega
  go_enter Try.func57, Try.ntmps57
  go_wp2_with fail
  go_ret
  exact ⟨by simp [e1], rfl⟩
end Go.Proofs.Ytamndbeffbcppaa
/-
Sums' Dot, Asum, Most. Conditions: the lists have at most 2^20 numbers.
-/
set_option linter.unusedVariables false
set_option linter.unusedSimpArgs false
set_option linter.unnecessarySimpa false
namespace Go.Proofs.Ytamndbeffbcppaa
open Go.RowKit
attribute [local go_sem ↓] Go.wp_at_zero Go.wp_at_succ

theorem heldN8 {w W : World} {b0 o0 b1 o1 b2 o2 b3 o3 b4 o4 b5 o5 b6 o6 b7 o7 : Nat} {v0 v1 v2 v3 v4 v5 v6 v7 : Value} (h : W.cell? ⟨b0, o0, none⟩ = some v0 ∧ W.cell? ⟨b1, o1, none⟩ = some v1 ∧ W.cell? ⟨b2, o2, none⟩ = some v2 ∧ W.cell? ⟨b3, o3, none⟩ = some v3 ∧ W.cell? ⟨b4, o4, none⟩ = some v4 ∧ W.cell? ⟨b5, o5, none⟩ = some v5 ∧ W.cell? ⟨b6, o6, none⟩ = some v6 ∧ W.cell? ⟨b7, o7, none⟩ = some v7 ∧ Below w.heap.size w W) (m : Nat) :
    (W.drewN m).cell? ⟨b0, o0, none⟩ = some v0 ∧ (W.drewN m).cell? ⟨b1, o1, none⟩ = some v1 ∧ (W.drewN m).cell? ⟨b2, o2, none⟩ = some v2 ∧ (W.drewN m).cell? ⟨b3, o3, none⟩ = some v3 ∧ (W.drewN m).cell? ⟨b4, o4, none⟩ = some v4 ∧ (W.drewN m).cell? ⟨b5, o5, none⟩ = some v5 ∧ (W.drewN m).cell? ⟨b6, o6, none⟩ = some v6 ∧ (W.drewN m).cell? ⟨b7, o7, none⟩ = some v7 ∧ Below w.heap.size w (W.drewN m) :=
  ⟨h.1, h.2.1, h.2.2.1, h.2.2.2.1, h.2.2.2.2.1, h.2.2.2.2.2.1, h.2.2.2.2.2.2.1, h.2.2.2.2.2.2.2.1, below_drewN h.2.2.2.2.2.2.2.2 m⟩
theorem heldM8 {w W : World} {b0 o0 b1 o1 b2 o2 b3 o3 b4 o4 b5 o5 b6 o6 b7 o7 a : Nat} {v0 v1 v2 v3 v4 v5 v6 v7 : Value} (h : (W.drewN a).cell? ⟨b0, o0, none⟩ = some v0 ∧ (W.drewN a).cell? ⟨b1, o1, none⟩ = some v1 ∧ (W.drewN a).cell? ⟨b2, o2, none⟩ = some v2 ∧ (W.drewN a).cell? ⟨b3, o3, none⟩ = some v3 ∧ (W.drewN a).cell? ⟨b4, o4, none⟩ = some v4 ∧ (W.drewN a).cell? ⟨b5, o5, none⟩ = some v5 ∧ (W.drewN a).cell? ⟨b6, o6, none⟩ = some v6 ∧ (W.drewN a).cell? ⟨b7, o7, none⟩ = some v7 ∧ Below w.heap.size w (W.drewN a)) (m : Nat) :
    (W.drewN m).cell? ⟨b0, o0, none⟩ = some v0 ∧ (W.drewN m).cell? ⟨b1, o1, none⟩ = some v1 ∧ (W.drewN m).cell? ⟨b2, o2, none⟩ = some v2 ∧ (W.drewN m).cell? ⟨b3, o3, none⟩ = some v3 ∧ (W.drewN m).cell? ⟨b4, o4, none⟩ = some v4 ∧ (W.drewN m).cell? ⟨b5, o5, none⟩ = some v5 ∧ (W.drewN m).cell? ⟨b6, o6, none⟩ = some v6 ∧ (W.drewN m).cell? ⟨b7, o7, none⟩ = some v7 ∧ Below w.heap.size w (W.drewN m) :=
  ⟨h.1, h.2.1, h.2.2.1, h.2.2.2.1, h.2.2.2.2.1, h.2.2.2.2.2.1, h.2.2.2.2.2.2.1, h.2.2.2.2.2.2.2.1, ⟨(h.2.2.2.2.2.2.2.2).os, (h.2.2.2.2.2.2.2.2).tape, (h.2.2.2.2.2.2.2.2).output, (h.2.2.2.2.2.2.2.2).size, (h.2.2.2.2.2.2.2.2).block⟩⟩
theorem dot_step {l m : List Nat} {k s p r a b : Nat} (hs : Is s (dotF l m k)) (ha : l.getD k 0 = a) (hb : m.getD k 0 = b) (hal : a < 18446744073709551616) (hbl : b < 18446744073709551616) (hp : Comes .mul a b p) (hr : Comes .add s p r) : Is r (dotF l m (k + 1)) := by
  show Is r (fbin .add (dotF l m k) (fbin .mul (l.getD k 0) (m.getD k 0)))
  rw [ha, hb]
  exact hr.is_ hs (hp.is_ (Is.refl hal) (Is.refl hbl))
theorem wds_lst2 {l : List Nat} (h : Wds l) (o i K : Nat) : Wds (lst l o i K) := by
  intro b hb
  unfold lst at hb
  obtain ⟨j, _, rfl⟩ := List.mem_map.1 hb
  rcases Nat.lt_or_ge (o + j * i) l.length with h1 | h1
  · rw [getD_of_lt h1]; exact h.at_ _ h1
  · rw [getD_of_le h1]; omega
theorem lst_wds {l : List Nat} (h : Wds l) (o i K k : Nat) : (lst l o i K).getD k 0 < 18446744073709551616 := by
  have : ∀ (m : List Nat), Wds m → m.getD k 0 < 18446744073709551616 := by
    intro m hm
    rcases Nat.lt_or_ge k m.length with h1 | h1
    · rw [getD_of_lt h1]; exact hm.at_ k h1
    · rw [getD_of_le h1]; omega
  refine this _ fun b hb => ?_
  unfold lst at hb
  obtain ⟨j, _, rfl⟩ := List.mem_map.1 hb
  rcases Nat.lt_or_ge (o + j * i) l.length with h1 | h1
  · rw [getD_of_lt h1]; exact h.at_ _ h1
  · rw [getD_of_le h1]; omega

set_option maxRecDepth 100000 in
set_option maxHeartbeats 1000000 in
theorem dot_ok (A A' : Option Addr) (n c : Nat) (l : List Nat) (o K i : Nat) (n' c' : Nat) (l' : List Nat) (o' i' : Nat) (w : World) (hA : Row w A (f64s l)) (hA' : Row w A' (f64s l')) (hW : Wds l) (hW' : Wds l') (hl : l.length = n) (hl' : l'.length = n') (hn : n < 1048576) (hn' : n' < 1048576)
    (hr : K = 0 ∨ o + (K - 1) * i < n) (hr' : K = 0 ∨ o' + (K - 1) * i' < n') (hK : K < 1048576) (hv : vecB n o K i = true) (hv' : vecB n' o' K i' = true) (ho : I64 o) (hi : I64 i) (ho' : I64 o') (hi' : I64 i') :
    Calls Try.prog 25 #[vec A n c o K i, vec A' n' c' o' K i'] w fun e w' => ∃ r, e = .returned (.tuple #[.float .f64 r, .int .i64 0]) ∧ Is r (dotF (lst l o i K) (lst l' o' i' K) K) ∧ Below w.heap.size w w' := by
  have HR := Lib.hid (fun a (h : a < K) => show o + a * i < n from by
    rcases hr with h0 | h0
    · omega
    · exact place_lt h0 h)
  have HR' := Lib.hid (fun a (h : a < K) => show o' + a * i' < n' from by
    rcases hr' with h0 | h0
    · omega
    · exact place_lt h0 h)
  have HAt := Lib.hid (fun W (hb : Below w.heap.size w W) k (hk : k < K) => sat_any A n c l o K i k W (hA.below hb) hl hn (HR.out k hk))
  have HAt' := Lib.hid (fun W (hb : Below w.heap.size w W) k (hk : k < K) => sat_any A' n' c' l' o' K i' k W (hA'.below hb) hl' hn' (HR'.out k hk))
  have HRi := Lib.hid (fun W => right_any A n c o K i W (by omega) ho (by unfold I64; omega) hi)
  have HRi' := Lib.hid (fun W => right_any A' n' c' o' K i' W (by omega) ho' (by unfold I64; omega) hi')
  rw [hv] at HRi
  rw [hv'] at HRi'
  have HWl := Lib.hid (fun k => lst_wds hW o i K k)
  have HWl' := Lib.hid (fun k => lst_wds hW' o' i' K k)
  have HK := Lib.hid hK
  clear hA hA' hW hW' hl hl' hn hn' hr hr' hv hv' ho hi ho' hi' hK
  unfold vec at *
  go_enter Try.func25, Try.ntmps25
  have Ha0 := Lib.hid ((Blk.new w 45 #[.slice A n c, .int .i64 o, .int .i64 K, .int .i64 i]).alloc (.cells #[.slice A' n' c', .int .i64 o', .int .i64 K, .int .i64 i'] 45))
  have Hb0 := Lib.hid (Blk.new_ (w.alloc (.cells #[.slice A n c, .int .i64 o, .int .i64 K, .int .i64 i] 45)) 45 #[.slice A' n' c', .int .i64 o', .int .i64 K, .int .i64 i'] (w.heap.size + 1) (by simp))
  have HB0 := Lib.hid (((Below.refl w.heap.size w).alloc (Nat.le_refl _) (.cells #[.slice A n c, .int .i64 o, .int .i64 K, .int .i64 i] 45)).alloc (by simp) (.cells #[.slice A' n' c', .int .i64 o', .int .i64 K, .int .i64 i'] 45))
  go_wp2_with fail
  refine (HRi.out _).mono ?_
  rintro e w1 ⟨rfl, hb⟩
  have Ha1 := Lib.hid (Ha0.out.nxt hb)
  have Hb1 := Lib.hid (Hb0.out.nxt hb)
  have HB1 := Lib.hid (below_nx HB0.out hb)
  clear hb
  obtain ⟨b0, b1, b2, b3⟩ := cells4w Hb1.out
  go_wp2_with fail
  refine (HRi'.out _).mono ?_
  rintro e w2 ⟨rfl, hb⟩
  have Ha2 := Lib.hid (Ha1.out.nxt hb)
  have Hb2 := Lib.hid (Hb1.out.nxt hb)
  have HB2 := Lib.hid (below_nx HB1.out hb)
  clear hb b0 b1 b2 b3
  obtain ⟨a0, a1, a2, a3⟩ := cells4w Ha2.out
  obtain ⟨b0, b1, b2, b3⟩ := cells4w Hb2.out
  go_wp2_with fail
  clear a0 a1 a2 a3 b0 b1 b2 b3
  go_loopw [6, 25] (fun s a wr => ∃ q r : Nat, q ≤ K ∧ s = .float .f64 r ∧ a = .int .i64 q ∧ Is r (dotF (lst l o i K) (lst l' o' i' K) q) ∧ Below w.heap.size w wr ∧ Blk wr w.heap.size 45 #[.slice A n c, .int .i64 o, .int .i64 K, .int .i64 i] ∧ Blk wr (w.heap.size + 1) 45 #[.slice A' n' c', .int .i64 o', .int .i64 K, .int .i64 i']) (fun _ a _ => K - (intOf a).toNat)
  case atStart => exact ⟨0, 0, Nat.zero_le _, rfl, rfl, is_zero, HB2.out, Ha2.out, Hb2.out⟩
  case round =>
    obtain ⟨q, r, hq, rfl, rfl, his, hbl, ha, hb⟩ := hrel
    have HIs := Lib.hid his
    have HBl := Lib.hid hbl
    have Ha := Lib.hid ha
    have Hb := Lib.hid hb
    clear his hbl ha hb
    obtain ⟨a0, a1, a2, a3⟩ := cells4w Ha.out
    obtain ⟨b0, b1, b2, b3⟩ := cells4w Hb.out
    by_cases hlt : q < K
    · have HC := Lib.hid (fun W (hb : Below w.heap.size w W) => HAt.out W hb q hlt)
      have HC' := Lib.hid (fun W (hb : Below w.heap.size w W) => HAt'.out W hb q hlt)
      obtain ⟨x, hx⟩ : ∃ x, l.getD (o + q * i) 0 = x := ⟨_, rfl⟩
      obtain ⟨y, hy⟩ : ∃ y, l'.getD (o' + q * i') 0 = y := ⟨_, rfl⟩
      rw [hx] at HC
      rw [hy] at HC'
      have HX := Lib.hid ((lst_getD l o i hlt).trans hx)
      have HY := Lib.hid ((lst_getD l' o' i' hlt).trans hy)
      have HXl := Lib.hid (HWl.out q)
      have HYl := Lib.hid (HWl'.out q)
      rw [HX.out] at HXl
      rw [HY.out] at HYl
      have HSt := Lib.hid (fun p r' (hp : Comes .mul x y p) (hr' : Comes .add r p r') => dot_step HIs.out HX.out HY.out HXl.out HYl.out hp hr')
      have hqc : (q : Int) < (K : Int) := by omega
      have hq1 : q + 1 ≤ 1048576 := by have := HK.out; omega
      clear hx hy
      go_wp2_with fail
      refine wp_region_inv [28, 29, 30, 31, 32, 33, 34, 35, 36, 6] (fun d s W => (d 0 = true → s 28 = .float .f64 r) ∧ (d 1 = true → s 29 = .agg #[.slice A n c, .int .i64 o, .int .i64 K, .int .i64 i]) ∧ (d 2 = true → s 30 = .int .i64 (q : Int)) ∧ (d 3 = true → s 31 = .float .f64 x) ∧ (d 4 = true → s 32 = .agg #[.slice A' n' c', .int .i64 o', .int .i64 K, .int .i64 i']) ∧ (d 5 = true → s 33 = .int .i64 (q : Int)) ∧ (d 6 = true → s 34 = .float .f64 y) ∧ (d 7 = true → ∃ p, s 35 = .float .f64 p ∧ Comes .mul x y p) ∧ (d 8 = true → ∃ p, s 36 = .float .f64 p ∧ Is p (dotF (lst l o i K) (lst l' o' i' K) (q + 1))) ∧ (d 9 = true → ∃ p, s 6 = .float .f64 p ∧ Is p (dotF (lst l o i K) (lst l' o' i' K) (q + 1))) ∧ (d 9 = true → d 0 = true) ∧ (d 9 = false → s 6 = .float .f64 r) ∧ Below wr.heap.size wr W)
        rfl (by kernel_rfl) ?_ ?_ ?_
      · exact ⟨by simp, by simp, by simp, by simp, by simp, by simp, by simp, by simp, by simp, by simp, by simp, fun _ => by simp, (Below.refl _ _).drew⟩
      · refine ⟨?_, ?_, ?_, ?_, ?_, ?_, ?_, ?_, ?_, ?_, trivial⟩
        all_goals
          intro d s W hJ hfr hd hdep
          simp only [List.mem_cons, forall_eq_or_imp, List.not_mem_nil, false_implies, implies_true, and_true, Region.binds] at hdep
          have f2 := hfr 2 (by decide)
          have f3 := hfr 3 (by decide)
          have f7 := hfr 7 (by decide)
          simp at f2 f3 f7 hdep
          obtain ⟨h0, h1, h2, h3, h4, h5, h6, h7, h8, h9, x0, x1, hT⟩ := hJ
          unfold OpSteps
        · have hs6 := x1 (by cases h : d 9; rfl; have := x0 h; rw [hd] at this; cases this)
          simp [go_sem, evS, f2, f3, f7, hs6]
          exact ⟨fun _ => by simp [sput], fun h => by simpa [sput] using h1 (by simpa [did] using h), fun h => by simpa [sput] using h2 (by simpa [did] using h), fun h => by simpa [sput] using h3 (by simpa [did] using h), fun h => by simpa [sput] using h4 (by simpa [did] using h), fun h => by simpa [sput] using h5 (by simpa [did] using h), fun h => by simpa [sput] using h6 (by simpa [did] using h), fun h => by simpa [sput] using h7 (by simpa [did] using h), fun h => by simpa [sput] using h8 (by simpa [did] using h), fun h => by simpa [sput] using h9 (by simpa [did] using h), fun _ => by simp [did], by simpa [sput, did] using x1, hT⟩
        · obtain ⟨p0, p1, p2, p3⟩ := cells4w (Ha.out.below hT Ha.out.lt)
          simp [go_sem, evS, f2, f3, f7, p0, p1, p2, p3]
          exact ⟨fun h => by simpa [sput] using h0 (by simpa [did] using h), fun _ => by simp [sput], fun h => by simpa [sput] using h2 (by simpa [did] using h), fun h => by simpa [sput] using h3 (by simpa [did] using h), fun h => by simpa [sput] using h4 (by simpa [did] using h), fun h => by simpa [sput] using h5 (by simpa [did] using h), fun h => by simpa [sput] using h6 (by simpa [did] using h), fun h => by simpa [sput] using h7 (by simpa [did] using h), fun h => by simpa [sput] using h8 (by simpa [did] using h), fun h => by simpa [sput] using h9 (by simpa [did] using h), by simpa [sput, did] using x0, by simpa [sput, did] using x1, hT⟩
        · simp [go_sem, evS, f2, f3, f7]
          exact ⟨fun h => by simpa [sput] using h0 (by simpa [did] using h), fun h => by simpa [sput] using h1 (by simpa [did] using h), fun _ => by simp [sput], fun h => by simpa [sput] using h3 (by simpa [did] using h), fun h => by simpa [sput] using h4 (by simpa [did] using h), fun h => by simpa [sput] using h5 (by simpa [did] using h), fun h => by simpa [sput] using h6 (by simpa [did] using h), fun h => by simpa [sput] using h7 (by simpa [did] using h), fun h => by simpa [sput] using h8 (by simpa [did] using h), fun h => by simpa [sput] using h9 (by simpa [did] using h), by simpa [sput, did] using x0, by simpa [sput, did] using x1, hT⟩
        · have g1 := h1 (by simp [hdep])
          have g2 := h2 (by simp [hdep])
          simp [go_sem, evS, f2, f3, f7, g1, g2]
          refine (HC.out W (below_nx HBl.out hT)).mono ?_
          rintro e W' ⟨rfl, hb⟩
          refine ⟨_, rfl, ?_⟩
          exact ⟨fun h => by simpa [sput] using h0 (by simpa [did] using h), fun h => by simpa [sput] using h1 (by simpa [did] using h), fun h => by simpa [sput] using h2 (by simpa [did] using h), fun _ => by simp [sput], fun h => by simpa [sput] using h4 (by simpa [did] using h), fun h => by simpa [sput] using h5 (by simpa [did] using h), fun h => by simpa [sput] using h6 (by simpa [did] using h), fun h => by simpa [sput] using h7 (by simpa [did] using h), fun h => by simpa [sput] using h8 (by simpa [did] using h), fun h => by simpa [sput] using h9 (by simpa [did] using h), by simpa [sput, did] using x0, by simpa [sput, did] using x1, below_nx hT hb⟩
        · obtain ⟨p0, p1, p2, p3⟩ := cells4w (Hb.out.below hT Hb.out.lt)
          simp [go_sem, evS, f2, f3, f7, p0, p1, p2, p3]
          exact ⟨fun h => by simpa [sput] using h0 (by simpa [did] using h), fun h => by simpa [sput] using h1 (by simpa [did] using h), fun h => by simpa [sput] using h2 (by simpa [did] using h), fun h => by simpa [sput] using h3 (by simpa [did] using h), fun _ => by simp [sput], fun h => by simpa [sput] using h5 (by simpa [did] using h), fun h => by simpa [sput] using h6 (by simpa [did] using h), fun h => by simpa [sput] using h7 (by simpa [did] using h), fun h => by simpa [sput] using h8 (by simpa [did] using h), fun h => by simpa [sput] using h9 (by simpa [did] using h), by simpa [sput, did] using x0, by simpa [sput, did] using x1, hT⟩
        · simp [go_sem, evS, f2, f3, f7]
          exact ⟨fun h => by simpa [sput] using h0 (by simpa [did] using h), fun h => by simpa [sput] using h1 (by simpa [did] using h), fun h => by simpa [sput] using h2 (by simpa [did] using h), fun h => by simpa [sput] using h3 (by simpa [did] using h), fun h => by simpa [sput] using h4 (by simpa [did] using h), fun _ => by simp [sput], fun h => by simpa [sput] using h6 (by simpa [did] using h), fun h => by simpa [sput] using h7 (by simpa [did] using h), fun h => by simpa [sput] using h8 (by simpa [did] using h), fun h => by simpa [sput] using h9 (by simpa [did] using h), by simpa [sput, did] using x0, by simpa [sput, did] using x1, hT⟩
        · have g4 := h4 (by simp [hdep])
          have g5 := h5 (by simp [hdep])
          simp [go_sem, evS, f2, f3, f7, g4, g5]
          refine (HC'.out W (below_nx HBl.out hT)).mono ?_
          rintro e W' ⟨rfl, hb⟩
          refine ⟨_, rfl, ?_⟩
          exact ⟨fun h => by simpa [sput] using h0 (by simpa [did] using h), fun h => by simpa [sput] using h1 (by simpa [did] using h), fun h => by simpa [sput] using h2 (by simpa [did] using h), fun h => by simpa [sput] using h3 (by simpa [did] using h), fun h => by simpa [sput] using h4 (by simpa [did] using h), fun h => by simpa [sput] using h5 (by simpa [did] using h), fun _ => by simp [sput], fun h => by simpa [sput] using h7 (by simpa [did] using h), fun h => by simpa [sput] using h8 (by simpa [did] using h), fun h => by simpa [sput] using h9 (by simpa [did] using h), by simpa [sput, did] using x0, by simpa [sput, did] using x1, below_nx hT hb⟩
        · have g3 := h3 (by simp [hdep])
          have g6 := h6 (by simp [hdep])
          simp [go_sem, evS, f2, f3, f7, g3, g6]
          exact ⟨fun h => by simpa [sput] using h0 (by simpa [did] using h), fun h => by simpa [sput] using h1 (by simpa [did] using h), fun h => by simpa [sput] using h2 (by simpa [did] using h), fun h => by simpa [sput] using h3 (by simpa [did] using h), fun h => by simpa [sput] using h4 (by simpa [did] using h), fun h => by simpa [sput] using h5 (by simpa [did] using h), fun h => by simpa [sput] using h6 (by simpa [did] using h), fun _ => ⟨fres .mul W x y, by simp [sput], fres_comes _ _ _ _⟩, fun h => by simpa [sput] using h8 (by simpa [did] using h), fun h => by simpa [sput] using h9 (by simpa [did] using h), by simpa [sput, did] using x0, by simpa [sput, did] using x1, below_drewN hT _⟩
        · have g0 := h0 (by simp [hdep])
          have g7 := h7 (by simp [hdep])
          obtain ⟨p, gp, hp⟩ := g7
          simp [go_sem, evS, f2, f3, f7, g0, gp]
          exact ⟨fun h => by simpa [sput] using h0 (by simpa [did] using h), fun h => by simpa [sput] using h1 (by simpa [did] using h), fun h => by simpa [sput] using h2 (by simpa [did] using h), fun h => by simpa [sput] using h3 (by simpa [did] using h), fun h => by simpa [sput] using h4 (by simpa [did] using h), fun h => by simpa [sput] using h5 (by simpa [did] using h), fun h => by simpa [sput] using h6 (by simpa [did] using h), fun h => by simpa [sput] using h7 (by simpa [did] using h), fun _ => ⟨fres .add W r p, by simp [sput], HSt.out p _ hp (fres_comes _ _ _ _)⟩, fun h => by simpa [sput] using h9 (by simpa [did] using h), by simpa [sput, did] using x0, by simpa [sput, did] using x1, below_drewN hT _⟩
        · have g8 := h8 (by simp [hdep])
          obtain ⟨p, gp, hp⟩ := g8
          simp [go_sem, evS, f2, f3, f7, gp]
          exact ⟨fun h => by simpa [sput] using h0 (by simpa [did] using h), fun h => by simpa [sput] using h1 (by simpa [did] using h), fun h => by simpa [sput] using h2 (by simpa [did] using h), fun h => by simpa [sput] using h3 (by simpa [did] using h), fun h => by simpa [sput] using h4 (by simpa [did] using h), fun h => by simpa [sput] using h5 (by simpa [did] using h), fun h => by simpa [sput] using h6 (by simpa [did] using h), fun h => by simpa [sput] using h7 (by simpa [did] using h), fun h => by simpa [sput] using h8 (by simpa [did] using h), fun _ => ⟨p, by simp [sput], hp⟩, fun _ => by simp [did, hdep], fun h => by simp [did] at h, hT⟩
      intro d s W hJ hd
      obtain ⟨h0, h1, h2, h3, h4, h5, h6, h7, h8, h9, x0, x1, hT⟩ := hJ
      obtain ⟨p, hs6, hp⟩ := h9 (hd 9 (by decide))
      have HRes := Lib.hid hp
      have HBr := Lib.hid (below_nx HBl.out hT)
      have Har := Lib.hid (Ha.out.below hT Ha.out.lt)
      have Hbr := Lib.hid (Hb.out.below hT Hb.out.lt)
      clear h0 h1 h2 h3 h4 h5 h6 h7 h8 h9 x0 x1 hT hp hd
      simp [setAll, hs6]
      clear hs6
      go_wp2_with fail
      go_roundw
      case rel => exact ⟨q + 1, p, by omega, rfl, by go_num, HRes.out, HBr.out, Har.out, Hbr.out⟩
      case measure => simp [intOf]; omega
    · obtain rfl : q = K := by omega
      have hqc : ¬ (q : Int) < (q : Int) := by omega
      go_wp2_with fail
      go_ret2
      exact ⟨_, rfl, HIs.out, HBl.out⟩
end Go.Proofs.Ytamndbeffbcppaa
/-
Sums' Asum and Most. Conditions: the list has at most 2^20 numbers.
-/
set_option linter.unusedVariables false
set_option linter.unusedSimpArgs false
set_option linter.unnecessarySimpa false
namespace Go.Proofs.Ytamndbeffbcppaa
open Go.RowKit
attribute [local go_sem ↓] Go.wp_at_zero Go.wp_at_succ

theorem asum_step {l : List Nat} {k s r a : Nat} (hs : Is s (asumF l k)) (ha : l.getD k 0 = a) (hr : Comes .add s (absW a) r) : Is r (asumF l (k + 1)) := by
  show Is r (fbin .add (asumF l k) (absW (l.getD k 0)))
  rw [ha]
  exact hr.is_ hs (Is.refl (by have := absW_lt a; omega))

set_option maxRecDepth 100000 in
set_option maxHeartbeats 1000000 in
theorem asum_ok (A : Option Addr) (n c : Nat) (l : List Nat) (o K i : Nat) (w : World) (hA : Row w A (f64s l)) (hW : Wds l) (hl : l.length = n) (hn : n < 1048576)
    (hr : K = 0 ∨ o + (K - 1) * i < n) (hK : K < 1048576) (hv : vecB n o K i = true) (ho : I64 o) (hi : I64 i) :
    Calls Try.prog 26 #[vec A n c o K i] w fun e w' => ∃ r, e = .returned (.tuple #[.float .f64 r, .int .i64 0]) ∧ Is r (asumF (lst l o i K) K) ∧ Below w.heap.size w w' := by
  have HR := Lib.hid (fun a (h : a < K) => show o + a * i < n from by
    rcases hr with h0 | h0
    · omega
    · exact place_lt h0 h)
  have HAt := Lib.hid (fun W (hb : Below w.heap.size w W) k (hk : k < K) => sat_any A n c l o K i k W (hA.below hb) hl hn (HR.out k hk))
  have HRi := Lib.hid (fun W => right_any A n c o K i W (by omega) ho (by unfold I64; omega) hi)
  rw [hv] at HRi
  have HWl := Lib.hid (fun k => lst_wds hW o i K k)
  have HK := Lib.hid hK
  clear hA hW hl hn hr hv ho hi hK
  unfold vec at *
  go_enter Try.func26, Try.ntmps26
  have Ha0 := Lib.hid (Blk.new w 45 #[.slice A n c, .int .i64 o, .int .i64 K, .int .i64 i])
  have HB0 := Lib.hid ((Below.refl w.heap.size w).alloc (Nat.le_refl _) (.cells #[.slice A n c, .int .i64 o, .int .i64 K, .int .i64 i] 45))
  go_wp2_with fail
  refine (HRi.out _).mono ?_
  rintro e w1 ⟨rfl, hb⟩
  have Ha1 := Lib.hid (Ha0.out.nxt hb)
  have HB1 := Lib.hid (below_nx HB0.out hb)
  clear hb
  obtain ⟨a0, a1, a2, a3⟩ := cells4w Ha1.out
  go_wp2_with fail
  clear a0 a1 a2 a3
  go_loopw [4, 11] (fun s a wr => ∃ q r : Nat, q ≤ K ∧ s = .float .f64 r ∧ a = .int .i64 q ∧ Is r (asumF (lst l o i K) q) ∧ Below w.heap.size w wr ∧ Blk wr w.heap.size 45 #[.slice A n c, .int .i64 o, .int .i64 K, .int .i64 i]) (fun _ a _ => K - (intOf a).toNat)
  case atStart => exact ⟨0, 0, Nat.zero_le _, rfl, rfl, is_zero, HB1.out, Ha1.out⟩
  case round =>
    obtain ⟨q, r, hq, rfl, rfl, his, hbl, ha⟩ := hrel
    have HIs := Lib.hid his
    have HBl := Lib.hid hbl
    have Ha := Lib.hid ha
    clear his hbl ha
    obtain ⟨a0, a1, a2, a3⟩ := cells4w Ha.out
    by_cases hlt : q < K
    · have HC := Lib.hid (HAt.out wr (HBl.out) q hlt)
      obtain ⟨x, hx⟩ : ∃ x, l.getD (o + q * i) 0 = x := ⟨_, rfl⟩
      rw [hx] at HC
      have HX := Lib.hid ((lst_getD l o i hlt).trans hx)
      have HXl := Lib.hid (HWl.out q)
      rw [HX.out] at HXl
      have HSt := Lib.hid (fun r' (hr' : Comes .add r (absW x) r') => asum_step HIs.out HX.out hr')
      have hqc : (q : Int) < (K : Int) := by omega
      have hq1 : q + 1 ≤ 1048576 := by have := HK.out; omega
      clear hx
      go_wp2_with fail
      refine HC.out.mono ?_
      rintro e w2 ⟨rfl, hb⟩
      have HBl2 := Lib.hid (below_nx HBl.out hb)
      have Ha2 := Lib.hid (Ha.out.nxt hb)
      clear hb a0 a1 a2 a3
      go_wp2_with fail
      refine (mabs_any x _ HXl.out).mono ?_
      rintro e w3 ⟨rfl, rfl⟩
      have HRes := Lib.hid (HSt.out _ (fres_comes .add w2 r (absW x)))
      go_wp2_with fail
      go_roundw
      case rel => exact ⟨q + 1, _, by omega, rfl, by go_num, HRes.out, below_drewN HBl2.out _, Ha2.out⟩
      case measure => simp [intOf]; omega
    · obtain rfl : q = K := by omega
      have hqc : ¬ (q : Int) < (q : Int) := by omega
      go_wp2_with fail
      go_ret2
      exact ⟨_, rfl, HIs.out, HBl.out⟩

theorem asum_err (A : Option Addr) (n c : Nat) (off k inc : Int) (w : World) (hn : n < 9223372036854775808) (ho : I64 off) (hk : I64 k) (hi : I64 inc) (hv : vecB n off k inc = false) :
    Calls Try.prog 26 #[vec A n c off k inc] w fun e w' => e = .returned (.tuple #[.float .f64 0, .int .i64 1]) ∧ Below w.heap.size w w' := by
  have HRi := Lib.hid (fun W => right_any A n c off k inc W hn ho hk hi)
  rw [hv] at HRi
  clear hn ho hk hi hv
  unfold vec at *
  go_enter Try.func26, Try.ntmps26
  have HB0 := Lib.hid ((Below.refl w.heap.size w).alloc (Nat.le_refl _) (.cells #[.slice A n c, .int .i64 off, .int .i64 k, .int .i64 inc] 45))
  go_wp2_with fail
  refine (HRi.out _).mono ?_
  rintro e w1 ⟨rfl, hb⟩
  have HB1 := Lib.hid (below_nx HB0.out hb)
  clear hb
  go_wp2_with fail
  go_ret2
  exact ⟨rfl, HB1.out⟩
theorem most_err (A : Option Addr) (n c : Nat) (off k inc : Int) (w : World) (hn : n < 9223372036854775808) (ho : I64 off) (hk : I64 k) (hi : I64 inc) (hv : vecB n off k inc = false) :
    Calls Try.prog 27 #[vec A n c off k inc] w fun e w' => e = .returned (.tuple #[.int .i64 (-1), .int .i64 1]) ∧ Below w.heap.size w w' := by
  have HRi := Lib.hid (fun W => right_any A n c off k inc W hn ho hk hi)
  rw [hv] at HRi
  clear hn ho hk hi hv
  unfold vec at *
  go_enter Try.func27, Try.ntmps27
  have HB0 := Lib.hid ((Below.refl w.heap.size w).alloc (Nat.le_refl _) (.cells #[.slice A n c, .int .i64 off, .int .i64 k, .int .i64 inc] 45))
  go_wp2_with fail
  refine (HRi.out _).mono ?_
  rintro e w1 ⟨rfl, hb⟩
  have HB1 := Lib.hid (below_nx HB0.out hb)
  clear hb
  go_wp2_with fail
  go_ret2
  exact ⟨rfl, HB1.out⟩

/-- The place that is told: -1 of no numbers. -/
def mostI (l : List Nat) : Int := if l.length = 0 then -1 else (mostF l l.length : Int)
set_option maxRecDepth 100000 in
set_option maxHeartbeats 1000000 in
theorem most_ok (A : Option Addr) (n c : Nat) (l : List Nat) (o K i : Nat) (w : World) (hA : Row w A (f64s l)) (hW : Wds l) (hl : l.length = n) (hn : n < 1048576)
    (hr : K = 0 ∨ o + (K - 1) * i < n) (hK : K < 1048576) (hv : vecB n o K i = true) (ho : I64 o) (hi : I64 i) :
    Calls Try.prog 27 #[vec A n c o K i] w fun e w' => e = .returned (.tuple #[.int .i64 (mostI (lst l o i K)), .int .i64 0]) ∧ Below w.heap.size w w' := by
  have HR := Lib.hid (fun a (h : a < K) => show o + a * i < n from by
    rcases hr with h0 | h0
    · omega
    · exact place_lt h0 h)
  have HAt := Lib.hid (fun W (hb : Below w.heap.size w W) k (hk : k < K) => sat_any A n c l o K i k W (hA.below hb) hl hn (HR.out k hk))
  have HRi := Lib.hid (fun W => right_any A n c o K i W (by omega) ho (by unfold I64; omega) hi)
  rw [hv] at HRi
  have HWl := Lib.hid (fun k => lst_wds hW o i K k)
  have HK := Lib.hid hK
  clear hA hW hl hn hr hv ho hi hK
  have HM := Lib.hid (show mostI (lst l o i K) = if K = 0 then -1 else (mostF (lst l o i K) K : Int) by unfold mostI; rw [lst_length])
  unfold vec at *
  go_enter Try.func27, Try.ntmps27
  have Ha0 := Lib.hid (Blk.new w 45 #[.slice A n c, .int .i64 o, .int .i64 K, .int .i64 i])
  have HB0 := Lib.hid ((Below.refl w.heap.size w).alloc (Nat.le_refl _) (.cells #[.slice A n c, .int .i64 o, .int .i64 K, .int .i64 i] 45))
  go_wp2_with fail
  refine (HRi.out _).mono ?_
  rintro e w1 ⟨rfl, hb⟩
  have Ha1 := Lib.hid (Ha0.out.nxt hb)
  have HB1 := Lib.hid (below_nx HB0.out hb)
  clear hb
  obtain ⟨a0, a1, a2, a3⟩ := cells4w Ha1.out
  by_cases h0 : K = 0
  · subst h0
    go_wp2_with fail
    go_ret2
    exact ⟨by rw [HM.out]; rfl, HB1.out⟩
  have k0 : ((K : Int) == 0) = false := by simp [h0]
  go_wp2_with fail
  clear a0 a1 a2 a3
  go_loopw [4, 14] (fun b a wr => ∃ q t : Nat, q ≤ K ∧ b = .int .i64 t ∧ a = .int .i64 q ∧ t = mostF (lst l o i K) q ∧ Below w.heap.size w wr ∧ Blk wr w.heap.size 45 #[.slice A n c, .int .i64 o, .int .i64 K, .int .i64 i]) (fun _ a _ => K - (intOf a).toNat)
  case atStart => exact ⟨0, 0, Nat.zero_le _, rfl, rfl, rfl, HB1.out, Ha1.out⟩
  case round =>
    obtain ⟨q, t, hq, rfl, rfl, ht, hbl, ha⟩ := hrel
    have HT := Lib.hid ht
    have HBl := Lib.hid hbl
    have Ha := Lib.hid ha
    clear ht hbl ha
    obtain ⟨a0, a1, a2, a3⟩ := cells4w Ha.out
    by_cases hlt : q < K
    · have htK : t < K := by
        rw [HT.out]
        by_cases hq0 : q = 0
        · subst hq0; exact hlt
        · have := mostF_lt (lst l o i K) q (by omega); omega
      have hstep : mostF (lst l o i K) (q + 1) = if gtB (absW ((lst l o i K).getD q 0)) (absW ((lst l o i K).getD t 0)) then q else t := by rw [mostF, ← HT.out]
      rw [lst_getD l o i hlt, lst_getD l o i htK] at hstep
      have hxl := HWl.out q
      have hyl := HWl.out t
      rw [lst_getD l o i hlt] at hxl
      rw [lst_getD l o i htK] at hyl
      have HC := Lib.hid (fun W (hb : Below wr.heap.size wr W) (j x : Nat) (hj : (j = q ∧ x = l.getD (o + q * i) 0) ∨ (j = t ∧ x = l.getD (o + t * i) 0)) =>
        show Calls Try.prog 53 #[.agg #[.slice A n c, .int .i64 o, .int .i64 K, .int .i64 i], .int .i64 j] W fun e w' => e = .returned (.float .f64 x) ∧ Below W.heap.size W w' from by
          rcases hj with ⟨rfl, rfl⟩ | ⟨rfl, rfl⟩
          · exact HAt.out W (below_nx HBl.out hb) _ hlt
          · exact HAt.out W (below_nx HBl.out hb) _ htK)
      obtain ⟨x, hx⟩ : ∃ x, l.getD (o + q * i) 0 = x := ⟨_, rfl⟩
      obtain ⟨y, hy⟩ : ∃ y, l.getD (o + t * i) 0 = y := ⟨_, rfl⟩
      rw [hx, hy] at HC hstep
      rw [hx] at hxl
      rw [hy] at hyl
      have HAb := Lib.hid (fun W (b : Nat) (hb : b = x ∨ b = y) => mabs_any b W (by rcases hb with rfl | rfl; exact hxl; exact hyl))
      have HSt := Lib.hid hstep
      have hqc : (q : Int) < (K : Int) := by omega
      have hq1 : q + 1 ≤ 1048576 := by have := HK.out; omega
      have HtK := Lib.hid htK
      clear hx hy hstep hxl hyl htK
      obtain ⟨gt, hgt⟩ : ∃ gt, gtB (absW x) (absW y) = gt := ⟨_, rfl⟩
      rw [hgt] at HSt
      have hgt2 : (FloatKind.f64.format.order (absW x) (absW y) == some .gt) = gt := hgt
      clear hgt
      go_wp2_with fail
      refine wp_region_inv [17, 18, 19, 20, 21, 22, 23, 24, 25] (fun d s W => (d 0 = true → s 17 = .agg #[.slice A n c, .int .i64 o, .int .i64 K, .int .i64 i]) ∧ (d 1 = true → s 18 = .int .i64 (q : Int)) ∧ (d 2 = true → s 19 = .float .f64 x) ∧ (d 3 = true → s 20 = .float .f64 (absW x)) ∧ (d 4 = true → s 21 = .agg #[.slice A n c, .int .i64 o, .int .i64 K, .int .i64 i]) ∧ (d 5 = true → s 22 = .int .i64 (t : Int)) ∧ (d 6 = true → s 23 = .float .f64 y) ∧ (d 7 = true → s 24 = .float .f64 (absW y)) ∧ (d 8 = true → s 25 = .bool gt) ∧ Below wr.heap.size wr W)
        rfl (by kernel_rfl) ?_ ?_ ?_
      · exact ⟨by simp, by simp, by simp, by simp, by simp, by simp, by simp, by simp, by simp, (Below.refl _ _).drew⟩
      · refine ⟨?_, ?_, ?_, ?_, ?_, ?_, ?_, ?_, ?_, trivial⟩
        all_goals
          intro d s W hJ hfr hd hdep
          simp only [List.mem_cons, forall_eq_or_imp, List.not_mem_nil, false_implies, implies_true, and_true, Region.binds] at hdep
          have f1 := hfr 1 (by decide)
          have f4 := hfr 4 (by decide)
          have f5 := hfr 5 (by decide)
          simp at f1 f4 f5 hdep
          obtain ⟨h0, h1, h2, h3, h4, h5, h6, h7, h8, hT⟩ := hJ
          unfold OpSteps
        · obtain ⟨p0, p1, p2, p3⟩ := cells4w (Ha.out.below hT Ha.out.lt)
          simp [go_sem, evS, f1, f4, f5, p0, p1, p2, p3]
          exact ⟨fun _ => by simp [sput], fun h => by simpa [sput] using h1 (by simpa [did] using h), fun h => by simpa [sput] using h2 (by simpa [did] using h), fun h => by simpa [sput] using h3 (by simpa [did] using h), fun h => by simpa [sput] using h4 (by simpa [did] using h), fun h => by simpa [sput] using h5 (by simpa [did] using h), fun h => by simpa [sput] using h6 (by simpa [did] using h), fun h => by simpa [sput] using h7 (by simpa [did] using h), fun h => by simpa [sput] using h8 (by simpa [did] using h), hT⟩
        · simp [go_sem, evS, f1, f4, f5]
          exact ⟨fun h => by simpa [sput] using h0 (by simpa [did] using h), fun _ => by simp [sput], fun h => by simpa [sput] using h2 (by simpa [did] using h), fun h => by simpa [sput] using h3 (by simpa [did] using h), fun h => by simpa [sput] using h4 (by simpa [did] using h), fun h => by simpa [sput] using h5 (by simpa [did] using h), fun h => by simpa [sput] using h6 (by simpa [did] using h), fun h => by simpa [sput] using h7 (by simpa [did] using h), fun h => by simpa [sput] using h8 (by simpa [did] using h), hT⟩
        · have g0 := h0 (by simp [hdep])
          have g1 := h1 (by simp [hdep])
          simp [go_sem, evS, f1, f4, f5, g0, g1]
          refine (HC.out W hT q x (.inl ⟨rfl, rfl⟩)).mono ?_
          rintro e W' ⟨rfl, hb⟩
          refine ⟨_, rfl, ?_⟩
          exact ⟨fun h => by simpa [sput] using h0 (by simpa [did] using h), fun h => by simpa [sput] using h1 (by simpa [did] using h), fun _ => by simp [sput], fun h => by simpa [sput] using h3 (by simpa [did] using h), fun h => by simpa [sput] using h4 (by simpa [did] using h), fun h => by simpa [sput] using h5 (by simpa [did] using h), fun h => by simpa [sput] using h6 (by simpa [did] using h), fun h => by simpa [sput] using h7 (by simpa [did] using h), fun h => by simpa [sput] using h8 (by simpa [did] using h), below_nx hT hb⟩
        · have g2 := h2 (by simp [hdep])
          simp [go_sem, evS, f1, f4, f5, g2]
          refine (HAb.out W x (.inl rfl)).mono ?_
          rintro e W' ⟨rfl, rfl⟩
          refine ⟨_, rfl, ?_⟩
          exact ⟨fun h => by simpa [sput] using h0 (by simpa [did] using h), fun h => by simpa [sput] using h1 (by simpa [did] using h), fun h => by simpa [sput] using h2 (by simpa [did] using h), fun _ => by simp [sput], fun h => by simpa [sput] using h4 (by simpa [did] using h), fun h => by simpa [sput] using h5 (by simpa [did] using h), fun h => by simpa [sput] using h6 (by simpa [did] using h), fun h => by simpa [sput] using h7 (by simpa [did] using h), fun h => by simpa [sput] using h8 (by simpa [did] using h), hT⟩
        · obtain ⟨p0, p1, p2, p3⟩ := cells4w (Ha.out.below hT Ha.out.lt)
          simp [go_sem, evS, f1, f4, f5, p0, p1, p2, p3]
          exact ⟨fun h => by simpa [sput] using h0 (by simpa [did] using h), fun h => by simpa [sput] using h1 (by simpa [did] using h), fun h => by simpa [sput] using h2 (by simpa [did] using h), fun h => by simpa [sput] using h3 (by simpa [did] using h), fun _ => by simp [sput], fun h => by simpa [sput] using h5 (by simpa [did] using h), fun h => by simpa [sput] using h6 (by simpa [did] using h), fun h => by simpa [sput] using h7 (by simpa [did] using h), fun h => by simpa [sput] using h8 (by simpa [did] using h), hT⟩
        · simp [go_sem, evS, f1, f4, f5]
          exact ⟨fun h => by simpa [sput] using h0 (by simpa [did] using h), fun h => by simpa [sput] using h1 (by simpa [did] using h), fun h => by simpa [sput] using h2 (by simpa [did] using h), fun h => by simpa [sput] using h3 (by simpa [did] using h), fun h => by simpa [sput] using h4 (by simpa [did] using h), fun _ => by simp [sput], fun h => by simpa [sput] using h6 (by simpa [did] using h), fun h => by simpa [sput] using h7 (by simpa [did] using h), fun h => by simpa [sput] using h8 (by simpa [did] using h), hT⟩
        · have g4 := h4 (by simp [hdep])
          have g5 := h5 (by simp [hdep])
          simp [go_sem, evS, f1, f4, f5, g4, g5]
          refine (HC.out W hT t y (.inr ⟨rfl, rfl⟩)).mono ?_
          rintro e W' ⟨rfl, hb⟩
          refine ⟨_, rfl, ?_⟩
          exact ⟨fun h => by simpa [sput] using h0 (by simpa [did] using h), fun h => by simpa [sput] using h1 (by simpa [did] using h), fun h => by simpa [sput] using h2 (by simpa [did] using h), fun h => by simpa [sput] using h3 (by simpa [did] using h), fun h => by simpa [sput] using h4 (by simpa [did] using h), fun h => by simpa [sput] using h5 (by simpa [did] using h), fun _ => by simp [sput], fun h => by simpa [sput] using h7 (by simpa [did] using h), fun h => by simpa [sput] using h8 (by simpa [did] using h), below_nx hT hb⟩
        · have g6 := h6 (by simp [hdep])
          simp [go_sem, evS, f1, f4, f5, g6]
          refine (HAb.out W y (.inr rfl)).mono ?_
          rintro e W' ⟨rfl, rfl⟩
          refine ⟨_, rfl, ?_⟩
          exact ⟨fun h => by simpa [sput] using h0 (by simpa [did] using h), fun h => by simpa [sput] using h1 (by simpa [did] using h), fun h => by simpa [sput] using h2 (by simpa [did] using h), fun h => by simpa [sput] using h3 (by simpa [did] using h), fun h => by simpa [sput] using h4 (by simpa [did] using h), fun h => by simpa [sput] using h5 (by simpa [did] using h), fun h => by simpa [sput] using h6 (by simpa [did] using h), fun _ => by simp [sput], fun h => by simpa [sput] using h8 (by simpa [did] using h), hT⟩
        · have g3 := h3 (by simp [hdep])
          have g7 := h7 (by simp [hdep])
          simp [go_sem, evS, f1, f4, f5, g3, g7, hgt2]
          exact ⟨fun h => by simpa [sput] using h0 (by simpa [did] using h), fun h => by simpa [sput] using h1 (by simpa [did] using h), fun h => by simpa [sput] using h2 (by simpa [did] using h), fun h => by simpa [sput] using h3 (by simpa [did] using h), fun h => by simpa [sput] using h4 (by simpa [did] using h), fun h => by simpa [sput] using h5 (by simpa [did] using h), fun h => by simpa [sput] using h6 (by simpa [did] using h), fun h => by simpa [sput] using h7 (by simpa [did] using h), fun _ => by simp [sput], hT⟩
      intro d s W hJ hd
      obtain ⟨h0, h1, h2, h3, h4, h5, h6, h7, h8, hT⟩ := hJ
      have hs25 := h8 (hd 8 (by decide))
      have HBr := Lib.hid (below_nx HBl.out hT)
      have Har := Lib.hid (Ha.out.below hT Ha.out.lt)
      clear h0 h1 h2 h3 h4 h5 h6 h7 h8 hT hd
      simp [setAll, hs25]
      clear hs25
      cases gt
      · go_wp2_with fail
        go_roundw
        case rel => exact ⟨q + 1, t, by omega, rfl, by go_num, by rw [HSt.out]; rfl, HBr.out, Har.out⟩
        case measure => simp [intOf]; omega
      · go_wp2_with fail
        go_roundw
        case rel => exact ⟨q + 1, q, by omega, rfl, by go_num, by rw [HSt.out]; rfl, HBr.out, Har.out⟩
        case measure => simp [intOf]; omega
    · obtain rfl : q = K := by omega
      have hqc : ¬ (q : Int) < (q : Int) := by omega
      go_wp2_with fail
      go_ret2
      exact ⟨by have e := HM.out; rw [if_neg h0, ← HT.out] at e; rw [e]; first | rfl | simp, HBl.out⟩
end Go.Proofs.Ytamndbeffbcppaa
/-
The document's Asum, Most, Dot. Conditions: the lists have at most 2^20 numbers.
-/
set_option linter.unusedVariables false
set_option linter.unusedSimpArgs false
set_option linter.unnecessarySimpa false
namespace Go.Proofs.Ytamndbeffbcppaa
open Go.RowKit
attribute [local go_sem ↓] Go.wp_at_zero Go.wp_at_succ

theorem getD_wds {l : List Nat} (h : Wds l) (k : Nat) : l.getD k 0 < 18446744073709551616 := by
  rcases Nat.lt_or_ge k l.length with h1 | h1
  · rw [getD_of_lt h1]; exact h.at_ k h1
  · rw [getD_of_le h1]; omega
theorem Row.get0 {w : World} {A : Option Addr} {l : List Nat} {k : Nat} (h : Row w A (f64s l)) (hk : k < l.length) : ∃ b o, A = some ⟨b, o, none⟩ ∧ w.cell? ⟨b, o + k, none⟩ = some (.float .f64 (l.getD k 0)) := by
  obtain ⟨b, o, e, _, hc⟩ := h.at_ (f64s_get l k hk)
  exact ⟨b, o, e, by rw [getD_of_lt hk]; exact hc⟩

set_option maxHeartbeats 1000000 in
theorem rasum_any (A : Option Addr) (n c : Nat) (l : List Nat) (w : World) (hA : Row w A (f64s l)) (hW : Wds l) (hl : l.length = n) (hn : n < 1048576) :
    Calls Try.prog 31 #[.slice A n c] w fun e w' => ∃ r, e = .returned (.float .f64 r) ∧ Is r (asumF l n) ∧ Below w.heap.size w w' := by
  have HA := Lib.hid hA
  have HW := Lib.hid hW
  have Hl := Lib.hid hl
  clear hA hW hl
  go_enter Try.func31, Try.ntmps31
  go_wp2_with fail
  go_loopw [3, 4] (fun s a wr => ∃ q r : Nat, q ≤ n ∧ s = .float .f64 r ∧ a = .int .i64 q ∧ Is r (asumF l q) ∧ Below w.heap.size w wr) (fun _ a _ => n - (intOf a).toNat)
  case atStart => exact ⟨0, 0, Nat.zero_le _, rfl, rfl, is_zero, Below.refl _ _⟩
  case round =>
    obtain ⟨q, r, hq, rfl, rfl, his, hbl⟩ := hrel
    have HIs := Lib.hid his
    have HBl := Lib.hid hbl
    clear his hbl
    by_cases hlt : q < n
    · obtain ⟨b, o, rfl, hc0⟩ := HA.out.get0 (k := q) (by rw [Hl.out]; exact hlt)
      have hc := cell_below hc0 HBl.out
      have HXl := Lib.hid (getD_wds HW.out q)
      obtain ⟨x, hx⟩ : ∃ x, l.getD q 0 = x := ⟨_, rfl⟩
      rw [hx] at hc HXl
      have HSt := Lib.hid (fun r' (hr' : Comes .add r (absW x) r') => asum_step HIs.out hx hr')
      have hqc : (q : Int) < (n : Int) := by omega
      have hq1 : q + 1 ≤ 1048576 := by omega
      clear hc0 hx
      go_wp2_with fail
      refine (rabs_any x _ HXl.out).mono ?_
      rintro e w3 ⟨rfl, rfl⟩
      go_wp2_with fail
      refine (plus_any r (absW x) _).mono ?_
      rintro e w4 ⟨r', rfl, hr', hb⟩
      have HRes := Lib.hid (HSt.out _ hr')
      have HBl2 := Lib.hid (below_nx HBl.out hb)
      clear hr' hb hc
      go_wp2_with fail
      go_roundw
      case rel => exact ⟨q + 1, _, by omega, rfl, by go_num, HRes.out, HBl2.out⟩
      case measure => simp [intOf]; omega
    · obtain rfl : q = n := by omega
      have hqc : ¬ (q : Int) < (q : Int) := by omega
      go_wp2_with fail
      go_ret
      exact ⟨_, rfl, HIs.out, HBl.out⟩

set_option maxRecDepth 100000 in
set_option maxHeartbeats 1000000 in
theorem rdot_any (A B : Option Addr) (n c d : Nat) (l m : List Nat) (w : World) (hA : Row w A (f64s l)) (hB : Row w B (f64s m)) (hW : Wds l) (hW' : Wds m) (hl : l.length = n) (hm : m.length = n) (hn : n < 1048576) :
    Calls Try.prog 33 #[.slice A n c, .slice B n d] w fun e w' => ∃ r, e = .returned (.float .f64 r) ∧ Is r (dotF l m n) ∧ Below w.heap.size w w' := by
  have HA := Lib.hid hA
  have HB := Lib.hid hB
  have HW := Lib.hid hW
  have HW' := Lib.hid hW'
  have Hl := Lib.hid hl
  have Hm := Lib.hid hm
  clear hA hB hW hW' hl hm
  go_enter Try.func33, Try.ntmps33
  go_wp2_with fail
  go_loopw [5, 6] (fun s a wr => ∃ q r : Nat, q ≤ n ∧ s = .float .f64 r ∧ a = .int .i64 q ∧ Is r (dotF l m q) ∧ Below w.heap.size w wr) (fun _ a _ => n - (intOf a).toNat)
  case atStart => exact ⟨0, 0, Nat.zero_le _, rfl, rfl, is_zero, Below.refl _ _⟩
  case round =>
    obtain ⟨q, r, hq, rfl, rfl, his, hbl⟩ := hrel
    have HIs := Lib.hid his
    have HBl := Lib.hid hbl
    clear his hbl
    by_cases hlt : q < n
    · obtain ⟨b, o, rfl, hc0⟩ := HA.out.get0 (k := q) (by rw [Hl.out]; exact hlt)
      obtain ⟨b', o', rfl, hc0'⟩ := HB.out.get0 (k := q) (by rw [Hm.out]; exact hlt)
      have hc := cell_below hc0 HBl.out
      have hc' := cell_below hc0' HBl.out
      have HXl := Lib.hid (getD_wds HW.out q)
      have HYl := Lib.hid (getD_wds HW'.out q)
      obtain ⟨x, hx⟩ : ∃ x, l.getD q 0 = x := ⟨_, rfl⟩
      obtain ⟨y, hy⟩ : ∃ y, m.getD q 0 = y := ⟨_, rfl⟩
      rw [hx] at hc HXl
      rw [hy] at hc' HYl
      have HSt := Lib.hid (fun p r' (hp : Comes .mul x y p) (hr' : Comes .add r p r') => dot_step HIs.out hx hy HXl.out HYl.out hp hr')
      have hqc : (q : Int) < (n : Int) := by omega
      have hq1 : q + 1 ≤ 1048576 := by omega
      have HBd := Lib.hid HBl.out.drew
      clear hc0 hx hc0' hy
      go_wp2_with fail
      go_region_held3 (fun w' => w'.cell? ⟨b, o + q, none⟩ = some (.float .f64 x) ∧ w'.cell? ⟨b', o' + q, none⟩ = some (.float .f64 y) ∧ Below wr.heap.size wr w')
        (first | exact ⟨hc, hc', (Below.refl _ wr).drew⟩ | exact ⟨cell_below (‹_ ∧ _ ∧ Below wr.heap.size wr _›).1 hbA, cell_below (‹_ ∧ _ ∧ Below wr.heap.size wr _›).2.1 hbA, below_nx (‹_ ∧ _ ∧ Below wr.heap.size wr _›).2.2 hbA⟩)
        (first
          | (go_at_call 58; refine (times_any x y _).mono ?_; rintro e1 wA ⟨p, rfl, hp, hbA⟩; skip)
          | (go_at_call 34; refine (plus_any r p _).mono ?_; rintro e1 wA ⟨r', rfl, hr', hbA⟩; skip))
      have HRes := Lib.hid (HSt.out p r' hp hr')
      have HBr := Lib.hid (below_nx HBl.out (‹_ ∧ _ ∧ Below wr.heap.size wr _›).2.2)
      clear hp hr'
      go_wp2_with fail
      go_roundw
      case rel => exact ⟨q + 1, r', by omega, rfl, by go_num, HRes.out, HBr.out⟩
      case measure => simp [intOf]; omega
    · obtain rfl : q = n := by omega
      have hqc : ¬ (q : Int) < (q : Int) := by omega
      go_wp2_with fail
      go_ret
      exact ⟨_, rfl, HIs.out, HBl.out⟩

set_option maxRecDepth 100000 in
set_option maxHeartbeats 1000000 in
theorem rmost_any (A : Option Addr) (n c : Nat) (l : List Nat) (w : World) (hA : Row w A (f64s l)) (hW : Wds l) (hl : l.length = n) (hn : n < 1048576) :
    Calls Try.prog 32 #[.slice A n c] w fun e w' => e = .returned (.int .i64 (mostI l)) ∧ Below w.heap.size w w' := by
  have HA := Lib.hid hA
  have HW := Lib.hid hW
  have Hl := Lib.hid hl
  have HM := Lib.hid (show mostI l = if n = 0 then -1 else (mostF l n : Int) by unfold mostI; rw [hl])
  clear hA hW hl
  by_cases h0 : n = 0
  · subst h0
    go_enter Try.func32, Try.ntmps32
    go_wp2_with fail
    go_ret
    exact ⟨by rw [HM.out]; rfl, Below.refl _ _⟩
  have k0 : ((n : Int) == 0) = false := by simp [h0]
  go_enter Try.func32, Try.ntmps32
  go_wp2_with fail
  go_loopw [3, 4] (fun b a wr => ∃ q t : Nat, 1 ≤ q ∧ q ≤ n ∧ b = .int .i64 t ∧ a = .int .i64 q ∧ t = mostF l q ∧ Below w.heap.size w wr) (fun _ a _ => n - (intOf a).toNat)
  case atStart => exact ⟨1, 0, by omega, by omega, rfl, rfl, by simp [mostF], Below.refl _ _⟩
  case round =>
    obtain ⟨q, t, hq1, hq, rfl, rfl, ht, hbl⟩ := hrel
    have HT := Lib.hid ht
    have HBl := Lib.hid hbl
    clear ht hbl
    by_cases hlt : q < n
    · have htq : t < n := by rw [HT.out]; have := mostF_lt l q hq1; omega
      have hstep : mostF l (q + 1) = if gtB (absW (l.getD q 0)) (absW (l.getD t 0)) then q else t := by rw [mostF, ← HT.out]
      obtain ⟨b, o, rfl, hc0⟩ := HA.out.get0 (k := q) (by rw [Hl.out]; exact hlt)
      obtain ⟨b', o', e', hc0'⟩ := HA.out.get0 (k := t) (by rw [Hl.out]; exact htq)
      obtain ⟨rfl, rfl⟩ : b = b' ∧ o = o' := by simpa using e'
      have hc := cell_below hc0 HBl.out
      have hc' := cell_below hc0' HBl.out
      have hxl := getD_wds HW.out q
      have hyl := getD_wds HW.out t
      obtain ⟨x, hx⟩ : ∃ x, l.getD q 0 = x := ⟨_, rfl⟩
      obtain ⟨y, hy⟩ : ∃ y, l.getD t 0 = y := ⟨_, rfl⟩
      rw [hx] at hc hxl hstep
      rw [hy] at hc' hyl hstep
      have HAb := Lib.hid (fun W => rabs_any x W hxl)
      have HAb' := Lib.hid (fun W => rabs_any y W hyl)
      have HSt := Lib.hid hstep
      have hqc : (q : Int) < (n : Int) := by omega
      have htc : (t : Int) < (n : Int) := by omega
      have hq2 : q + 1 ≤ 1048576 := by omega
      clear hc0 hx hc0' hy hxl hyl hstep e'
      obtain ⟨gt, hgt⟩ : ∃ gt, gtB (absW x) (absW y) = gt := ⟨_, rfl⟩
      rw [hgt] at HSt
      have hgt2 : (FloatKind.f64.format.order (absW x) (absW y) == some .gt) = gt := hgt
      have HBd := Lib.hid HBl.out.drew
      clear hgt
      go_wp2_with fail
      go_region_held3 (fun w' => w'.cell? ⟨b, o + q, none⟩ = some (.float .f64 x) ∧ w'.cell? ⟨b, o + t, none⟩ = some (.float .f64 y) ∧ Below wr.heap.size wr w')
        (first | exact ⟨hc, hc', (Below.refl _ wr).drew⟩ | assumption)
        (first
          | (go_at_call 57; (with_reducible refine (HAb.out _).mono ?_); rintro e1 wA ⟨rfl, rfl⟩; skip)
          | (go_at_call 57; (with_reducible refine (HAb'.out _).mono ?_); rintro e1 wA ⟨rfl, rfl⟩; skip))
      have HBr := Lib.hid (below_nx HBl.out (‹_ ∧ _ ∧ Below wr.heap.size wr _›).2.2)
      cases gt
      · go_wp2_with fail
        go_roundw
        case rel => exact ⟨q + 1, t, by omega, by omega, rfl, by go_num, by rw [HSt.out]; rfl, HBr.out⟩
        case measure => simp [intOf]; omega
      · go_wp2_with fail
        go_roundw
        case rel => exact ⟨q + 1, q, by omega, by omega, rfl, by go_num, by rw [HSt.out]; rfl, HBr.out⟩
        case measure => simp [intOf]; omega
    · obtain rfl : q = n := by omega
      have hqc : ¬ (q : Int) < (q : Int) := by omega
      go_wp2_with fail
      go_ret
      exact ⟨by have e := HM.out; rw [if_neg h0, ← HT.out] at e; rw [e]; first | rfl | simp, HBl.out⟩
end Go.Proofs.Ytamndbeffbcppaa
