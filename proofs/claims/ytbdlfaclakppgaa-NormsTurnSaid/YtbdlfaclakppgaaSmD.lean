/-
The document's Asum, Most, Dot. Conditions: the lists have at most 2^20 numbers.
-/
import Derived.Test.YtbdlfaclakppgaaSmC
set_option linter.unusedVariables false
set_option linter.unusedSimpArgs false
set_option linter.unnecessarySimpa false
namespace Go.Proofs.Ytbdlfaclakppgaa
open Go.RowKit
attribute [local go_sem ↓] Go.wp_at_zero Go.wp_at_succ

theorem getD_wds {l : List Nat} (h : Wds l) (k : Nat) : l.getD k 0 < 18446744073709551616 := by
  rcases Nat.lt_or_ge k l.length with h1 | h1
  · rw [getD_of_lt h1]; exact h.at_ k h1
  · rw [getD_of_le h1]; omega
theorem Row.get0 {w : World} {A : Option Addr} {l : List Nat} {k : Nat} (h : Row w A (f64s l)) (hk : k < l.length) : ∃ b o, A = some ⟨b, o, none⟩ ∧ w.cell? ⟨b, o + k, none⟩ = some (.float .f64 (l.getD k 0)) := by
  obtain ⟨b, o, e, _, hc⟩ := h.at_ (f64s_get l k hk)
  exact ⟨b, o, e, by rw [getD_of_lt hk]; exact hc⟩

set_option maxHeartbeats 1000000 in
theorem rasum_any (A : Option Addr) (n c : Nat) (l : List Nat) (w : World) (hA : Row w A (f64s l)) (hW : Wds l) (hl : l.length = n) (hn : n < 1048576) :
    Calls Try.prog 18 #[.slice A n c] w fun e w' => ∃ r, e = .returned (.float .f64 r) ∧ Is r (asumF l n) ∧ Below w.heap.size w w' := by
  have HA := Lib.hid hA
  have HW := Lib.hid hW
  have Hl := Lib.hid hl
  clear hA hW hl
  go_enter Try.func18, Try.ntmps18
  go_wp2_with fail
  go_loopw [3, 4] (fun s a wr => ∃ q r : Nat, q ≤ n ∧ s = .float .f64 r ∧ a = .int .i64 q ∧ Is r (asumF l q) ∧ Below w.heap.size w wr) (fun _ a _ => n - (intOf a).toNat)
  case atStart => exact ⟨0, 0, Nat.zero_le _, rfl, rfl, is_zero, Below.refl _ _⟩
  case round =>
    obtain ⟨q, r, hq, rfl, rfl, his, hbl⟩ := hrel
    have HIs := Lib.hid his
    have HBl := Lib.hid hbl
    clear his hbl
    by_cases hlt : q < n
    · obtain ⟨b, o, rfl, hc0⟩ := HA.out.get0 (k := q) (by rw [Hl.out]; exact hlt)
      have hc := cell_below hc0 HBl.out
      have HXl := Lib.hid (getD_wds HW.out q)
      obtain ⟨x, hx⟩ : ∃ x, l.getD q 0 = x := ⟨_, rfl⟩
      rw [hx] at hc HXl
      have HSt := Lib.hid (fun r' (hr' : Comes .add r (absW x) r') => asum_step HIs.out hx hr')
      have hqc : (q : Int) < (n : Int) := by omega
      have hq1 : q + 1 ≤ 1048576 := by omega
      clear hc0 hx
      go_wp2_with fail
      refine (rabs_any x _ HXl.out).mono ?_
      rintro e w3 ⟨rfl, rfl⟩
      go_wp2_with fail
      refine (rplus_any r (absW x) _).mono ?_
      rintro e w4 ⟨r', rfl, hr', hb⟩
      have HRes := Lib.hid (HSt.out _ hr')
      have HBl2 := Lib.hid (below_nx HBl.out hb)
      clear hr' hb hc
      go_wp2_with fail
      go_roundw
      case rel => exact ⟨q + 1, _, by omega, rfl, by go_num, HRes.out, HBl2.out⟩
      case measure => simp [intOf]; omega
    · obtain rfl : q = n := by omega
      have hqc : ¬ (q : Int) < (q : Int) := by omega
      go_wp2_with fail
      go_ret
      exact ⟨_, rfl, HIs.out, HBl.out⟩

end Go.Proofs.Ytbdlfaclakppgaa
