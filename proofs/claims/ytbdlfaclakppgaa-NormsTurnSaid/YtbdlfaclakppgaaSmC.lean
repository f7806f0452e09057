/-
Sums' Asum and Most. Conditions: the list has at most 2^20 numbers.
-/
import Derived.Test.YtbdlfaclakppgaaSmB
set_option linter.unusedVariables false
set_option linter.unusedSimpArgs false
set_option linter.unnecessarySimpa false
namespace Go.Proofs.Ytbdlfaclakppgaa
open Go.RowKit
attribute [local go_sem ↓] Go.wp_at_zero Go.wp_at_succ

theorem asum_step {l : List Nat} {k s r a : Nat} (hs : Is s (asumF l k)) (ha : l.getD k 0 = a) (hr : Comes .add s (absW a) r) : Is r (asumF l (k + 1)) := by
  show Is r (fbin .add (asumF l k) (absW (l.getD k 0)))
  rw [ha]
  exact hr.is_ hs (Is.refl (by have := absW_lt a; omega))

set_option maxRecDepth 100000 in
set_option maxHeartbeats 1000000 in
theorem asum_ok (A : Option Addr) (n c : Nat) (l : List Nat) (o K i : Nat) (w : World) (hA : Row w A (f64s l)) (hW : Wds l) (hl : l.length = n) (hn : n < 1048576)
    (hr : K = 0 ∨ o + (K - 1) * i < n) (hK : K < 1048576) (hv : vecB n o K i = true) (ho : I64 o) (hi : I64 i) :
    Calls Try.prog 24 #[vec A n c o K i] w fun e w' => ∃ r, e = .returned (.tuple #[.float .f64 r, .int .i64 0]) ∧ Is r (asumF (lst l o i K) K) ∧ Below w.heap.size w w' := by
  have HR := Lib.hid (fun a (h : a < K) => show o + a * i < n from by
    rcases hr with h0 | h0
    · omega
    · exact place_lt h0 h)
  have HAt := Lib.hid (fun W (hb : Below w.heap.size w W) k (hk : k < K) => sat_any A n c l o K i k W (hA.below hb) hl hn (HR.out k hk))
  have HRi := Lib.hid (fun W => right_any A n c o K i W (by omega) ho (by unfold I64; omega) hi)
  rw [hv] at HRi
  have HWl := Lib.hid (fun k => lst_wds hW o i K k)
  have HK := Lib.hid hK
  clear hA hW hl hn hr hv ho hi hK
  unfold vec at *
  go_enter Try.func24, Try.ntmps24
  have Ha0 := Lib.hid (Blk.new w 45 #[.slice A n c, .int .i64 o, .int .i64 K, .int .i64 i])
  have HB0 := Lib.hid ((Below.refl w.heap.size w).alloc (Nat.le_refl _) (.cells #[.slice A n c, .int .i64 o, .int .i64 K, .int .i64 i] 45))
  go_wp2_with fail
  refine (HRi.out _).mono ?_
  rintro e w1 ⟨rfl, hb⟩
  have Ha1 := Lib.hid (Ha0.out.nxt hb)
  have HB1 := Lib.hid (below_nx HB0.out hb)
  clear hb
  obtain ⟨a0, a1, a2, a3⟩ := cells4w Ha1.out
  go_wp2_with fail
  clear a0 a1 a2 a3
  go_loopw [4, 11] (fun s a wr => ∃ q r : Nat, q ≤ K ∧ s = .float .f64 r ∧ a = .int .i64 q ∧ Is r (asumF (lst l o i K) q) ∧ Below w.heap.size w wr ∧ Blk wr w.heap.size 45 #[.slice A n c, .int .i64 o, .int .i64 K, .int .i64 i]) (fun _ a _ => K - (intOf a).toNat)
  case atStart => exact ⟨0, 0, Nat.zero_le _, rfl, rfl, is_zero, HB1.out, Ha1.out⟩
  case round =>
    obtain ⟨q, r, hq, rfl, rfl, his, hbl, ha⟩ := hrel
    have HIs := Lib.hid his
    have HBl := Lib.hid hbl
    have Ha := Lib.hid ha
    clear his hbl ha
    obtain ⟨a0, a1, a2, a3⟩ := cells4w Ha.out
    by_cases hlt : q < K
    · have HC := Lib.hid (HAt.out wr (HBl.out) q hlt)
      obtain ⟨x, hx⟩ : ∃ x, l.getD (o + q * i) 0 = x := ⟨_, rfl⟩
      rw [hx] at HC
      have HX := Lib.hid ((lst_getD l o i hlt).trans hx)
      have HXl := Lib.hid (HWl.out q)
      rw [HX.out] at HXl
      have HSt := Lib.hid (fun r' (hr' : Comes .add r (absW x) r') => asum_step HIs.out HX.out hr')
      have hqc : (q : Int) < (K : Int) := by omega
      have hq1 : q + 1 ≤ 1048576 := by have := HK.out; omega
      clear hx
      go_wp2_with fail
      refine HC.out.mono ?_
      rintro e w2 ⟨rfl, hb⟩
      have HBl2 := Lib.hid (below_nx HBl.out hb)
      have Ha2 := Lib.hid (Ha.out.nxt hb)
      clear hb a0 a1 a2 a3
      go_wp2_with fail
      refine (mabs_any x _ HXl.out).mono ?_
      rintro e w3 ⟨rfl, rfl⟩
      have HRes := Lib.hid (HSt.out _ (fres_comes .add w2 r (absW x)))
      go_wp2_with fail
      go_roundw
      case rel => exact ⟨q + 1, _, by omega, rfl, by go_num, HRes.out, below_drewN HBl2.out _, Ha2.out⟩
      case measure => simp [intOf]; omega
    · obtain rfl : q = K := by omega
      have hqc : ¬ (q : Int) < (q : Int) := by omega
      go_wp2_with fail
      go_ret2
      exact ⟨_, rfl, HIs.out, HBl.out⟩

theorem asum_err (A : Option Addr) (n c : Nat) (off k inc : Int) (w : World) (hn : n < 9223372036854775808) (ho : I64 off) (hk : I64 k) (hi : I64 inc) (hv : vecB n off k inc = false) :
    Calls Try.prog 24 #[vec A n c off k inc] w fun e w' => e = .returned (.tuple #[.float .f64 0, .int .i64 1]) ∧ Below w.heap.size w w' := by
  have HRi := Lib.hid (fun W => right_any A n c off k inc W hn ho hk hi)
  rw [hv] at HRi
  clear hn ho hk hi hv
  unfold vec at *
  go_enter Try.func24, Try.ntmps24
  have HB0 := Lib.hid ((Below.refl w.heap.size w).alloc (Nat.le_refl _) (.cells #[.slice A n c, .int .i64 off, .int .i64 k, .int .i64 inc] 45))
  go_wp2_with fail
  refine (HRi.out _).mono ?_
  rintro e w1 ⟨rfl, hb⟩
  have HB1 := Lib.hid (below_nx HB0.out hb)
  clear hb
  go_wp2_with fail
  go_ret2
  exact ⟨rfl, HB1.out⟩
/-- The place that is told: -1 of no numbers. -/
def mostI (l : List Nat) : Int := if l.length = 0 then -1 else (mostF l l.length : Int)
end Go.Proofs.Ytbdlfaclakppgaa
