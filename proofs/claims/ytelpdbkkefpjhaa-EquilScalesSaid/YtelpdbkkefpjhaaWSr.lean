/-
Differences of digits with a borrow, the arithmetic. Conditions: as each says.
-/
import Derived.Test.YtelpdbkkefpjhaaWSq
import Derived.Test.YtelpdbkkefpjhaaWSc
import Derived.WalkLawsBesides
import Derived.WalkSpells
import Derived.LoopTactic
import Derived.Outline
import Derived.Deep.QuietTactic
import Derived.BigQuiet
import Derived.RegionTactic
import Derived.Test.YtelpdbkkefpjhaaWSe
import Derived.Deep.RegionHeld3
import Derived.Deep.DrawnRows
import Derived.Test.YtelpdbkkefpjhaaZSNumB
import Derived.Deep.RegionWith
import Derived.Shelf.Spec.BitsCarry
import Derived.Deep.OwnRows
import Derived.Deep.DeepCutAuto
import Derived.IntWalk
import Derived.Shelf.Spec.TrailingZeros
import Derived.Lib.LaidTab
import Derived.Lib.ItoaNum
set_option linter.unusedVariables false
namespace Go.Proofs.Ytelpdbkkefpjhaa

/-- The first loop of difference. -/
def Dif1 (L1 L2 : List Nat) (k : Nat) (M : List Nat) (b : Nat) : Prop := Digs Q M ∧ M.length = L1.length ∧ b ≤ 1 ∧ ofd Q M + ofd Q (L2.take k) = ofd Q L1 + Q ^ k * b
theorem Dif1.start {L1 L2 : List Nat} (h : Digs Q L1) : Dif1 L1 L2 0 L1 0 := ⟨h, rfl, by omega, by simp [ofd]⟩
theorem Dif1.step (L1 L2 : List Nat) (k : Nat) (M : List Nat) (b x y : Nat) (h : Dif1 L1 L2 k M b) (hi : k < M.length) (hx : M[k] = x) (hk : k < L2.length) (hy : L2[k] = y) (hyq : y < Q) :
    Dif1 L1 L2 (k + 1) (M.set k ((x + Q - y - b) % Q)) (if x < y + b then 1 else 0) := by
  obtain ⟨h1, h2, h3, h4⟩ := h
  have hq := Q_val
  have hxq : x < Q := by rw [← hx]; exact h1.get k hi
  refine ⟨h1.set k (Nat.mod_lt _ (by omega)), by simpa using h2, by split <;> omega, ?_⟩
  have s1 := ofd_set Q M k ((x + Q - y - b) % Q) hi
  rw [hx] at s1
  have e : (x + Q - y - b) % Q + y + b = x + Q * (if x < y + b then 1 else 0) := by
    split
    · rename_i hlt; rw [Nat.mod_eq_of_lt (by omega)]; omega
    · rename_i hge
      have : x + Q - y - b = x - y - b + Q * 1 := by omega
      rw [this, Nat.add_mul_mod_self_left, Nat.mod_eq_of_lt (by omega)]; omega
  generalize (x + Q - y - b) % Q = v at *
  generalize (if x < y + b then 1 else 0) = B at *
  rw [ofd_take_succ Q L2 k hk, hy, Nat.pow_succ]
  generalize ofd Q (M.set k v) = X at *
  generalize Q ^ k = P at *
  have m : P * (v + y + b) = P * (x + Q * B) := by rw [e]
  rw [Nat.mul_add, Nat.mul_add, Nat.mul_add, ← Nat.mul_assoc] at m
  omega
/-- The second loop of difference. -/
def Dif2 (M0 : List Nat) (k : Nat) (M : List Nat) (c : Nat) : Prop :=
  Digs Q M ∧ M.length = M0.length ∧ c ≤ 1 ∧ M.drop k = M0.drop k ∧ ofd Q (M.take k) + Q ^ k * c + ofd Q (M0.take k) = Q ^ k
theorem Dif2.start {M0 : List Nat} (h : Digs Q M0) : Dif2 M0 0 M0 1 := ⟨h, rfl, by omega, rfl, by simp [ofd]⟩
theorem Dif2.step (M0 : List Nat) (k : Nat) (M : List Nat) (c x : Nat) (h : Dif2 M0 k M c) (hi : k < M.length) (hx : M[k] = x) :
    Dif2 M0 (k + 1) (M.set k ((Q - 1 - x + 0 + c) % Q)) ((Q - 1 - x + 0 + c) / Q) := by
  obtain ⟨h1, h2, h3, h4, h5⟩ := h
  have hq := Q_val
  have hxq : x < Q := by rw [← hx]; exact h1.get k hi
  have hx0 : M0[k]'(by omega) = x := by
    have : (M.drop k)[0]? = (M0.drop k)[0]? := by rw [h4]
    rw [List.getElem?_drop, List.getElem?_drop, List.getElem?_eq_getElem (by omega), List.getElem?_eq_getElem (by omega)] at this
    simpa [hx] using this.symm
  have hd : (Q - 1 - x + 0 + c) % Q + Q * ((Q - 1 - x + 0 + c) / Q) + x = Q - 1 + c := by
    have := Nat.mod_add_div (Q - 1 - x + 0 + c) Q; omega
  refine ⟨h1.set k (Nat.mod_lt _ (by omega)), by simpa using h2, ?_, ?_, ?_⟩
  · rw [Nat.div_le_iff_le_mul_add_pred (by omega)]; omega
  · rw [drop_set_succ, ← List.drop_drop, ← List.drop_drop, h4]
  · rw [ofd_take_set Q M k _ hi, ofd_take_succ Q M0 k (by omega), hx0, Nat.pow_succ]
    generalize (Q - 1 - x + 0 + c) % Q = v at *
    generalize (Q - 1 - x + 0 + c) / Q = C at *
    generalize Q ^ k = P at *
    have m : P * (v + Q * C + x) = P * (Q - 1 + c) := by rw [hd]
    have m2 : P * (Q - 1 + c) + P = P * Q + P * c := by
      rw [← Nat.mul_add_one, ← Nat.mul_add]; congr 1; omega
    rw [Nat.mul_add, Nat.mul_add, ← Nat.mul_assoc] at m
    omega
end Go.Proofs.Ytelpdbkkefpjhaa
/-
Whole numbers: difference. Conditions: as each says.
-/
set_option linter.unusedVariables false
namespace Go.Proofs.Ytelpdbkkefpjhaa
open Go.RowKit
attribute [local go_sem ↓] Go.wp_at_zero Go.wp_at_succ

theorem Only.alloc {g : Nat} {w w' : World} (h : Only g w w') (o : Obj) : Only g w (w'.alloc o) :=
  ⟨h.os, h.tape, h.output, Nat.le_trans h.size (by simp), fun i hi hne => (Below.heap_alloc w' o i (Nat.lt_of_lt_of_le hi h.size)).trans (h.block i hi hne)⟩
theorem Only.new_ {g : Nat} {w w' : World} (h : Only g w w') (i : Nat) (u : Value) (k : Nat) (hk : w.heap.size ≤ k) : Only g w (w'.setCell ⟨k, i, none⟩ u) :=
  ⟨h.os, h.tape, h.output, by simpa [World.setCell] using h.size, fun j hj hne => (Below.heap_setCell w' _ u j (by simp; omega)).trans (h.block j hj hne)⟩

end Go.Proofs.Ytelpdbkkefpjhaa
/-
Whole numbers: sum. Conditions: as each says.
-/
set_option linter.unusedVariables false
namespace Go.Proofs.Ytelpdbkkefpjhaa
open Go.RowKit
attribute [local go_sem ↓] Go.wp_at_zero Go.wp_at_succ

/-- The slice's elements are the whole numbers. -/
def Wholes (w : World) (b o : Nat) (zs : List Int) : Prop :=
  ∀ (i : Nat) (h : i < zs.length), ∃ A n c, w.cell? ⟨b, o + i * 2, none⟩ = some (.bool (ng zs[i])) ∧ w.cell? ⟨b, o + i * 2 + 1, none⟩ = some (.slice A n c) ∧ Wh w A n c zs[i]
theorem Wholes.below {w w' : World} {b o : Nat} {zs : List Int} (h : Wholes w b o zs) (hb : Below w.heap.size w w') : Wholes w' b o zs := fun i hi => by
  obtain ⟨A, n, c, h1, h2, h3⟩ := h i hi
  exact ⟨A, n, c, cell_below h1 hb, cell_below h2 hb, h3.below hb⟩
/-- The slice's numbers. -/
def Pows (w : World) (b o : Nat) (ps : List Nat) : Prop := ∀ (i : Nat) (h : i < ps.length), w.cell? ⟨b, o + i, none⟩ = some (.int .i64 (ps[i] : Int))
theorem Pows.below {w w' : World} {b o : Nat} {ps : List Nat} (h : Pows w b o ps) (hb : Below w.heap.size w w') : Pows w' b o ps := fun i hi => cell_below (h i hi) hb
/-- The sizes of the numbers that are below 0 (s), or aren't, each at its place. -/
def acc (s : Bool) (zs : List Int) (ps : List Nat) : Nat → Nat
  | 0 => 0
  | k + 1 => acc s zs ps k + if ng (zs.getD k 0) = s then 2 ^ ps.getD k 0 * (zs.getD k 0).natAbs else 0
/-- The two lists that are summed up, when k numbers are in. -/
def Acc2 (zs : List Int) (ps : List Nat) (W k : Nat) (M1 M2 : List Nat) : Prop :=
  Digs Q M1 ∧ Digs Q M2 ∧ M1.length = W ∧ M2.length = W ∧ ofd Q M1 = acc false zs ps k ∧ ofd Q M2 = acc true zs ps k
theorem Acc2.start (zs : List Int) (ps : List Nat) (W : Nat) : Acc2 zs ps W 0 (List.replicate W 0) (List.replicate W 0) :=
  ⟨Digs.replicate (by unfold Q; omega) _, Digs.replicate (by unfold Q; omega) _, by simp, by simp, ofd_replicate _ _, ofd_replicate _ _⟩
end Go.Proofs.Ytelpdbkkefpjhaa
/-
Whole numbers: evens, halved. Conditions: as each says.
-/
set_option linter.unusedVariables false
namespace Go.Proofs.Ytelpdbkkefpjhaa
open Go.RowKit
attribute [local go_sem ↓] Go.wp_at_zero Go.wp_at_succ

/-- What halved has laid after k words. -/
def HalfW (x W k : Nat) (M : List Nat) : Prop := Digs Q M ∧ M.length = W ∧ ofd Q (M.take k) = x % Q ^ k
theorem HalfW.start (x W : Nat) : HalfW x W 0 (List.replicate W 0) := ⟨Digs.replicate (by unfold Q; omega) _, by simp, by simp [ofd, Nat.mod_one]⟩
theorem HalfW.step {x W k : Nat} {M : List Nat} (h : HalfW x W k M) (hk : k < W) : HalfW x W (k + 1) (M.set k (x / Q ^ k % Q)) := by
  obtain ⟨h1, h2, h3⟩ := h
  refine ⟨h1.set k (Nat.mod_lt _ (by unfold Q; omega)), by simpa using h2, ?_⟩
  rw [ofd_take_set Q M k _ (by omega), h3, Nat.mod_pow_succ]
theorem HalfW.done {x W : Nat} {M : List Nat} (h : HalfW x W W M) (hx : x < Q ^ W) : ofd Q M = x := by
  obtain ⟨h1, h2, h3⟩ := h
  rw [ofd_take_all _ _ _ (by omega), Nat.mod_eq_of_lt hx] at h3
  exact h3
end Go.Proofs.Ytelpdbkkefpjhaa
/-
canonical: m times 2^e. Conditions: as each says.
-/
set_option linter.unusedVariables false
namespace Go.Proofs.Ytelpdbkkefpjhaa
open Go.RowKit
attribute [local go_sem ↓] Go.wp_at_zero Go.wp_at_succ

theorem Blk.next {w w' : World} {g : Nat} {t : TypeId} {cs : Array Value} (h : Blk w g t cs) (hb : Below w.heap.size w w') : Blk w' g t cs := h.below hb h.lt

end Go.Proofs.Ytelpdbkkefpjhaa
/-
The document's answer for dyadic numbers: how they lie, floor, power.
-/
set_option linter.unusedVariables false
namespace Go.Proofs.Ytelpdbkkefpjhaa
open Go.RowKit
attribute [local go_sem ↓] Go.wp_at_zero Go.wp_at_succ

def ints (l : List Nat) : List Value := l.map fun (d : Nat) => Value.int .i64 (d : Int)
theorem ints_get (l : List Nat) (i : Nat) (h : i < l.length) : (ints l)[i]? = some (.int .i64 (l[i] : Int)) := by simp [ints, h]
/-- The number that the digits to base 65536 make. -/
def rdy (neg : Bool) (l : List Nat) (e : Int) : Dyadic := dy (if neg then -(ofd 65536 l : Int) else (ofd 65536 l : Int)) (16 * e)
/-- Neither end is a nought. -/
def Neat (neg : Bool) (l : List Nat) (e : Int) : Prop := (l = [] ∧ neg = false ∧ e = 0) ∨ (l ≠ [] ∧ l.head? ≠ some 0 ∧ l.getLast? ≠ some 0)
/-- The block is one of ints. -/
def IntB (w : World) (b : Nat) : Prop := ∃ cs fr, w.heap[b]? = some (.cells cs 3 fr)
theorem IntB.lt {w : World} {b : Nat} (h : IntB w b) : b < w.heap.size := by
  obtain ⟨cs, fr, h⟩ := h
  exact (Array.getElem?_eq_some_iff.1 h).1
theorem IntB.below {w w' : World} {b : Nat} (h : IntB w b) (hb : Below w.heap.size w w') : IntB w' b := by
  obtain ⟨cs, fr, h1⟩ := h
  exact ⟨cs, fr, (hb.block b (IntB.lt ⟨cs, fr, h1⟩)).trans h1⟩
theorem IntB.of_blk {w : World} {b : Nat} {cs : Array Value} (h : Blk w b 3 cs) : IntB w b := ⟨cs, _, h⟩
theorem IntB.ne {w : World} {b g : Nat} {t : TypeId} {cs : Array Value} (h : IntB w b) (hB : Blk w g t cs) (ht : t ≠ 3) : b ≠ g := by
  rintro rfl
  obtain ⟨cs', fr, h1⟩ := h
  unfold Blk at hB
  rw [h1] at hB
  injection hB with hB
  injection hB with _ e _
  exact ht e.symm
/-- The slice holds the digits. -/
def Rd (w : World) (A : Option Addr) (n c : Nat) (l : List Nat) : Prop := n = l.length ∧ n ≤ c ∧ Row w A (ints l) ∧ Digs 65536 l ∧ ∀ b y, A = some ⟨b, y, none⟩ → l ≠ [] → IntB w b
theorem Rd.below {w w' : World} {A : Option Addr} {n c : Nat} {l : List Nat} (h : Rd w A n c l) (hb : Below w.heap.size w w') : Rd w' A n c l := ⟨h.1, h.2.1, h.2.2.1.below hb, h.2.2.2.1, fun b y e hl => (h.2.2.2.2 b y e hl).below hb⟩
/-- The call returned the number. -/
def RetR (d : Dyadic) (w : World) (e : Ending) (w' : World) : Prop :=
  ∃ (neg : Bool) (A : Option Addr) (n c : Nat) (E : Int) (l : List Nat), e = .returned (.agg #[.bool neg, .slice A n c, .int .i64 E]) ∧ Rd w' A n c l ∧ Neat neg l E ∧ rdy neg l E = d ∧ Below w.heap.size w w'
theorem rdy_drop (neg : Bool) (l : List Nat) (e : Int) : rdy neg (0 :: l) e = rdy neg l (e + 1) := by
  unfold rdy
  have h := dy_pow (if neg then -(ofd 65536 l : Int) else (ofd 65536 l : Int)) (16 * e) 16
  rw [show 16 * (e + 1) = 16 * e + ((16 : Nat) : Int) by omega, ← h, ofd_cons]
  congr 1
  cases neg <;> simp <;> omega
theorem rdy_take (neg : Bool) (l : List Nat) (e : Int) : rdy neg (l ++ [0]) e = rdy neg l e := by
  unfold rdy
  rw [ofd_snoc, Nat.mul_zero, Nat.add_zero]
theorem rdy_nil (neg : Bool) (e : Int) : rdy neg [] e = 0 := by
  unfold rdy
  rw [ofd_nil]
  cases neg <;> rfl

theorem floor_any (k : Int) (w : World) (h0 : -1000000000000000000 ≤ k) (h1 : k ≤ 1000000000000000000) :
    Calls Try.prog 66 #[.int .i64 k] w fun e w' => e = .returned (.tuple #[.int .i64 (k / 16), .int .i64 (k % 16)]) ∧ w = w' := by
  go_enter Try.func66, Try.ntmps66
  go_wp2_with fail
  go_ret2
  refine ⟨?_, rfl⟩
  have e0 : ∃ t, k.tmod 16 = t ∧ -15 ≤ t ∧ t ≤ 15 ∧ (t + 16) % 16 = k % 16 := by
    rcases Int.le_total 0 k with h | h
    · exact ⟨k % 16, Int.tmod_eq_emod_of_nonneg h, by omega, by omega, by omega⟩
    · refine ⟨-((-k) % 16), ?_, by omega, by omega, by omega⟩
      rw [← Int.tmod_eq_emod_of_nonneg (show 0 ≤ -k by omega), Int.neg_tmod, Int.neg_neg]
  obtain ⟨t, ht, t1, t2, t3⟩ := e0
  have e1 : wrap64 (k.tmod 16 + 16) = t + 16 := by rw [ht]; unfold wrap64; omega
  have e2 : (t + 16).tmod 16 = k % 16 := by rw [Int.tmod_eq_emod_of_nonneg (by omega)]; exact t3
  have e3 : wrap64 (k - k % 16) = 16 * (k / 16) := by unfold wrap64; omega
  have e4 : (16 * (k / 16)).tdiv 16 = k / 16 := Int.mul_tdiv_cancel_left _ (by decide)
  have e5 : wrap64 (k / 16) = k / 16 := by unfold wrap64; omega
  show Ending.returned (.tuple #[.int .i64 (wrap64 ((wrap64 (k - (wrap64 (k.tmod 16 + 16)).tmod 16)).tdiv 16)), .int .i64 ((wrap64 (k.tmod 16 + 16)).tmod 16)]) = _
  rw [e1, e2, e3, e4, e5]
theorem power_any (k : Nat) (w : World) (hk : k ≤ 16) :
    Calls Try.prog 67 #[.int .i64 (k : Int)] w fun e w' => e = .returned (.int .i64 ((2 ^ k : Nat) : Int)) ∧ w = w' := by
  go_enter Try.func67, Try.ntmps67
  go_wp2_with fail
  go_loop [3, 4] (fun n i => ∃ j N : Nat, j ≤ k ∧ N ≤ 65536 ∧ n = .int .i64 (N : Int) ∧ i = .int .i64 (j : Int) ∧ Hid (N = 2 ^ j)) (fun _ i => k - (intOf i).toNat)
  case atStart => exact ⟨0, 1, Nat.zero_le _, by omega, rfl, rfl, Lib.hid rfl⟩
  case round =>
    obtain ⟨j, N, hj, hN, rfl, rfl, HN⟩ := hrel
    by_cases hlt : j < k
    · have hb : N * 2 ≤ 65536 := by
        have : 2 ^ (j + 1) ≤ 2 ^ 16 := Nat.pow_le_pow_right (by omega) (by omega)
        rw [HN.out, ← Nat.pow_succ]; exact this
      go_wp2_with fail
      go_round
      case rel => exact ⟨j + 1, N * 2, by omega, hb, by go_num, by go_num, Lib.hid (by rw [HN.out, Nat.pow_succ])⟩
      case measure => simp [intOf]; omega
    · have HJ := Lib.hid (show j = k by omega)
      go_wp2_with fail
      go_ret
      refine ⟨?_, rfl⟩
      show Ending.returned (.int .i64 (N : Int)) = _
      rw [HN.out, HJ.out, Int.natCast_pow]
      rfl
end Go.Proofs.Ytelpdbkkefpjhaa
