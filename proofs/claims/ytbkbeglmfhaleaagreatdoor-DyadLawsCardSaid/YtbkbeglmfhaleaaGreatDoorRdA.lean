/-
The document's answer for dyadic numbers: how they lie, floor, power.
-/
import Derived.Test.YtbkbeglmfhaleaaGreatDoorCan
set_option linter.unusedVariables false
namespace Go.Proofs.YtbkbeglmfhaleaaGreatDoor
open Go.RowKit
attribute [local go_sem ↓] Go.wp_at_zero Go.wp_at_succ

def ints (l : List Nat) : List Value := l.map fun (d : Nat) => Value.int .i64 (d : Int)
theorem ints_get (l : List Nat) (i : Nat) (h : i < l.length) : (ints l)[i]? = some (.int .i64 (l[i] : Int)) := by simp [ints, h]
/-- The number that the digits to base 65536 make. -/
def rdy (neg : Bool) (l : List Nat) (e : Int) : Dyadic := dy (if neg then -(ofd 65536 l : Int) else (ofd 65536 l : Int)) (16 * e)
/-- Neither end is a nought. -/
def Neat (neg : Bool) (l : List Nat) (e : Int) : Prop := (l = [] ∧ neg = false ∧ e = 0) ∨ (l ≠ [] ∧ l.head? ≠ some 0 ∧ l.getLast? ≠ some 0)
/-- The block is one of ints. -/
def IntB (w : World) (b : Nat) : Prop := ∃ cs fr, w.heap[b]? = some (.cells cs 3 fr)
theorem IntB.lt {w : World} {b : Nat} (h : IntB w b) : b < w.heap.size := by
  obtain ⟨cs, fr, h⟩ := h
  exact (Array.getElem?_eq_some_iff.1 h).1
theorem IntB.below {w w' : World} {b : Nat} (h : IntB w b) (hb : Below w.heap.size w w') : IntB w' b := by
  obtain ⟨cs, fr, h1⟩ := h
  exact ⟨cs, fr, (hb.block b (IntB.lt ⟨cs, fr, h1⟩)).trans h1⟩
theorem IntB.of_blk {w : World} {b : Nat} {cs : Array Value} (h : Blk w b 3 cs) : IntB w b := ⟨cs, _, h⟩
theorem IntB.ne {w : World} {b g : Nat} {t : TypeId} {cs : Array Value} (h : IntB w b) (hB : Blk w g t cs) (ht : t ≠ 3) : b ≠ g := by
  rintro rfl
  obtain ⟨cs', fr, h1⟩ := h
  unfold Blk at hB
  rw [h1] at hB
  injection hB with hB
  injection hB with _ e _
  exact ht e.symm
/-- The slice holds the digits. -/
def Rd (w : World) (A : Option Addr) (n c : Nat) (l : List Nat) : Prop := n = l.length ∧ n ≤ c ∧ Row w A (ints l) ∧ Digs 65536 l ∧ ∀ b y, A = some ⟨b, y, none⟩ → l ≠ [] → IntB w b
theorem Rd.below {w w' : World} {A : Option Addr} {n c : Nat} {l : List Nat} (h : Rd w A n c l) (hb : Below w.heap.size w w') : Rd w' A n c l := ⟨h.1, h.2.1, h.2.2.1.below hb, h.2.2.2.1, fun b y e hl => (h.2.2.2.2 b y e hl).below hb⟩
/-- The call returned the number. -/
def RetR (d : Dyadic) (w : World) (e : Ending) (w' : World) : Prop :=
  ∃ (neg : Bool) (A : Option Addr) (n c : Nat) (E : Int) (l : List Nat), e = .returned (.agg #[.bool neg, .slice A n c, .int .i64 E]) ∧ Rd w' A n c l ∧ Neat neg l E ∧ rdy neg l E = d ∧ Below w.heap.size w w'
theorem rdy_drop (neg : Bool) (l : List Nat) (e : Int) : rdy neg (0 :: l) e = rdy neg l (e + 1) := by
  unfold rdy
  have h := dy_pow (if neg then -(ofd 65536 l : Int) else (ofd 65536 l : Int)) (16 * e) 16
  rw [show 16 * (e + 1) = 16 * e + ((16 : Nat) : Int) by omega, ← h, ofd_cons]
  congr 1
  cases neg <;> simp <;> omega
theorem rdy_take (neg : Bool) (l : List Nat) (e : Int) : rdy neg (l ++ [0]) e = rdy neg l e := by
  unfold rdy
  rw [ofd_snoc, Nat.mul_zero, Nat.add_zero]
theorem rdy_nil (neg : Bool) (e : Int) : rdy neg [] e = 0 := by
  unfold rdy
  rw [ofd_nil]
  cases neg <;> rfl

theorem floor_any (k : Int) (w : World) (h0 : -1000000000000000000 ≤ k) (h1 : k ≤ 1000000000000000000) :
    Calls Tryz.prog 56 #[.int .i64 k] w fun e w' => e = .returned (.tuple #[.int .i64 (k / 16), .int .i64 (k % 16)]) ∧ w = w' := by
  go_enter Tryz.func56, Tryz.ntmps56
  go_wp2_with fail
  go_ret2
  refine ⟨?_, rfl⟩
  have e0 : ∃ t, k.tmod 16 = t ∧ -15 ≤ t ∧ t ≤ 15 ∧ (t + 16) % 16 = k % 16 := by
    rcases Int.le_total 0 k with h | h
    · exact ⟨k % 16, Int.tmod_eq_emod_of_nonneg h, by omega, by omega, by omega⟩
    · refine ⟨-((-k) % 16), ?_, by omega, by omega, by omega⟩
      rw [← Int.tmod_eq_emod_of_nonneg (show 0 ≤ -k by omega), Int.neg_tmod, Int.neg_neg]
  obtain ⟨t, ht, t1, t2, t3⟩ := e0
  have e1 : wrap64 (k.tmod 16 + 16) = t + 16 := by rw [ht]; unfold wrap64; omega
  have e2 : (t + 16).tmod 16 = k % 16 := by rw [Int.tmod_eq_emod_of_nonneg (by omega)]; exact t3
  have e3 : wrap64 (k - k % 16) = 16 * (k / 16) := by unfold wrap64; omega
  have e4 : (16 * (k / 16)).tdiv 16 = k / 16 := Int.mul_tdiv_cancel_left _ (by decide)
  have e5 : wrap64 (k / 16) = k / 16 := by unfold wrap64; omega
  show Ending.returned (.tuple #[.int .i64 (wrap64 ((wrap64 (k - (wrap64 (k.tmod 16 + 16)).tmod 16)).tdiv 16)), .int .i64 ((wrap64 (k.tmod 16 + 16)).tmod 16)]) = _
  rw [e1, e2, e3, e4, e5]
theorem power_any (k : Nat) (w : World) (hk : k ≤ 16) :
    Calls Tryz.prog 57 #[.int .i64 (k : Int)] w fun e w' => e = .returned (.int .i64 ((2 ^ k : Nat) : Int)) ∧ w = w' := by
  go_enter Tryz.func57, Tryz.ntmps57
  go_wp2_with fail
  go_loop [3, 4] (fun n i => ∃ j N : Nat, j ≤ k ∧ N ≤ 65536 ∧ n = .int .i64 (N : Int) ∧ i = .int .i64 (j : Int) ∧ Hid (N = 2 ^ j)) (fun _ i => k - (intOf i).toNat)
  case atStart => exact ⟨0, 1, Nat.zero_le _, by omega, rfl, rfl, Lib.hid rfl⟩
  case round =>
    obtain ⟨j, N, hj, hN, rfl, rfl, HN⟩ := hrel
    by_cases hlt : j < k
    · have hb : N * 2 ≤ 65536 := by
        have : 2 ^ (j + 1) ≤ 2 ^ 16 := Nat.pow_le_pow_right (by omega) (by omega)
        rw [HN.out, ← Nat.pow_succ]; exact this
      go_wp2_with fail
      go_round
      case rel => exact ⟨j + 1, N * 2, by omega, hb, by go_num, by go_num, Lib.hid (by rw [HN.out, Nat.pow_succ])⟩
      case measure => simp [intOf]; omega
    · have HJ := Lib.hid (show j = k by omega)
      go_wp2_with fail
      go_ret
      refine ⟨?_, rfl⟩
      show Ending.returned (.int .i64 (N : Int)) = _
      rw [HN.out, HJ.out, Int.natCast_pow]
      rfl
end Go.Proofs.YtbkbeglmfhaleaaGreatDoor
