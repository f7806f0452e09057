/-
Sum and Greatest, and the document's. Conditions: the lists have at most 2^20 numbers.
-/
import Derived.Test.YtbdlfaclakppgaaSmE
import Derived.Test.YtbdlfaclakppgaaFmx
set_option linter.unusedVariables false
set_option linter.unusedSimpArgs false
namespace Go.Proofs.Ytbdlfaclakppgaa
open Go.RowKit
attribute [local go_sem ↓] Go.wp_at_zero Go.wp_at_succ

theorem sum_step {l : List Nat} {k s r a : Nat} (hs : Is s (sumF l k)) (ha : l.getD k 0 = a) (hal : a < 18446744073709551616) (hr : Comes .add s a r) : Is r (sumF l (k + 1)) := by
  show Is r (fbin .add (sumF l k) (l.getD k 0))
  rw [ha]
  exact hr.is_ hs (Is.refl hal)

set_option maxHeartbeats 1000000 in
theorem sumsum_any (A : Option Addr) (n c : Nat) (l : List Nat) (w : World) (hA : Row w A (f64s l)) (hW : Wds l) (hl : l.length = n) (hn : n < 1048576) :
    Calls Try.prog 40 #[.slice A n c] w fun e w' => ∃ r, e = .returned (.float .f64 r) ∧ Is r (sumF l n) ∧ Below w.heap.size w w' := by
  have HA := Lib.hid hA
  have HW := Lib.hid hW
  have Hl := Lib.hid hl
  clear hA hW hl
  go_enter Try.func40, Try.ntmps40
  go_wp2_with fail
  go_loopw [3, 8] (fun s a wr => ∃ q r : Nat, q ≤ n ∧ s = .float .f64 r ∧ a = .int .i64 q ∧ Is r (sumF l q) ∧ Below w.heap.size w wr) (fun _ a _ => n - (intOf a).toNat)
  case atStart => exact ⟨0, 0, Nat.zero_le _, rfl, rfl, is_zero, Below.refl _ _⟩
  case round =>
    obtain ⟨q, r, hq, rfl, rfl, his, hbl⟩ := hrel
    have HIs := Lib.hid his
    have HBl := Lib.hid hbl
    clear his hbl
    by_cases hlt : q < n
    · obtain ⟨b, o, rfl, hc0⟩ := HA.out.get0 (k := q) (by rw [Hl.out]; exact hlt)
      have hc := cell_below hc0 HBl.out
      have HXl := Lib.hid (getD_wds HW.out q)
      obtain ⟨x, hx⟩ : ∃ x, l.getD q 0 = x := ⟨_, rfl⟩
      rw [hx] at hc HXl
      have HRes := Lib.hid (fun W => sum_step HIs.out hx HXl.out (fres_comes .add W r x))
      have hqc : (q : Int) < (n : Int) := by omega
      have hq1 : q + 1 ≤ 1048576 := by omega
      clear hc0 hx
      go_wp2_with fail
      go_roundw
      case rel => exact ⟨q + 1, _, by omega, rfl, by go_num, HRes.out _, below_drewN HBl.out _⟩
      case measure => simp [intOf]; omega
    · obtain rfl : q = n := by omega
      have hqc : ¬ (q : Int) < (q : Int) := by omega
      go_wp2_with fail
      go_ret
      exact ⟨_, rfl, HIs.out, HBl.out⟩

set_option maxHeartbeats 1000000 in
theorem great5_any (A : Option Addr) (n c : Nat) (l : List Nat) (w : World) (hA : Row w A (f64s l)) (hW : Wds l) (hl : l.length = n) (hn : n < 1048576) :
    Calls Try.prog 41 #[.slice A n c] w fun e w' => ∃ r, e = .returned (.float .f64 r) ∧ Is r (gF l n) ∧ Below w.heap.size w w' := by
  have HA := Lib.hid hA
  have HW := Lib.hid hW
  have Hl := Lib.hid hl
  clear hA hW hl
  go_enter Try.func41, Try.ntmps41
  go_wp2_with fail
  go_loopw [3, 8] (fun s a wr => ∃ q r : Nat, q ≤ n ∧ s = .float .f64 r ∧ a = .int .i64 q ∧ Is r (gF l q) ∧ Below w.heap.size w wr) (fun _ a _ => n - (intOf a).toNat)
  case atStart => exact ⟨0, 0, Nat.zero_le _, rfl, rfl, is_zero, Below.refl _ _⟩
  case round =>
    obtain ⟨q, r, hq, rfl, rfl, his, hbl⟩ := hrel
    have HIs := Lib.hid his
    have HBl := Lib.hid hbl
    clear his hbl
    by_cases hlt : q < n
    · obtain ⟨b, o, rfl, hc0⟩ := HA.out.get0 (k := q) (by rw [Hl.out]; exact hlt)
      have hc := cell_below hc0 HBl.out
      have HXl := Lib.hid (getD_wds HW.out q)
      obtain ⟨x, hx⟩ : ∃ x, l.getD q 0 = x := ⟨_, rfl⟩
      rw [hx] at hc HXl
      have HRes := Lib.hid (fun W => max_step HIs.out hx HXl.out W)
      have hqc : (q : Int) < (n : Int) := by omega
      have hq1 : q + 1 ≤ 1048576 := by omega
      clear hc0 hx
      go_wp2_with fail
      go_roundw
      case rel => exact ⟨q + 1, _, by omega, rfl, by go_num, HRes.out _, below_drewN HBl.out _⟩
      case measure => simp [intOf]; omega
    · obtain rfl : q = n := by omega
      have hqc : ¬ (q : Int) < (q : Int) := by omega
      go_wp2_with fail
      go_ret
      exact ⟨_, rfl, HIs.out, HBl.out⟩

theorem gF_step_le {l : List Nat} {k m a : Nat} (hm : m = gF l k) (hn : Fl.nan m = false) (ha : l.getD k 0 = a) (han : Fl.nan a = false) : (if (FloatKind.f64.format.order a m == some .gt) = true then a else m) = gF l (k + 1) := by
  unfold gF
  rw [← hm, ha, hn, han]
  simp
theorem gF_fin {l : List Nat} : ∀ {n : Nat}, (∀ k, k < n → Fl.nan (l.getD k 0) = false) → Fl.nan (gF l n) = false
  | 0, _ => by unfold gF; decide
  | n + 1, h => by
    have h1 := gF_fin (n := n) fun k hk => h k (by omega)
    have h2 := h n (by omega)
    rw [← gF_step_le rfl h1 rfl h2]
    split
    · exact h2
    · exact h1

theorem gF_lt {l : List Nat} (h : Wds l) : ∀ k, gF l k < 18446744073709551616
  | 0 => by unfold gF; omega
  | k + 1 => by
    unfold gF
    split
    · exact nanw_lt
    · split
      · exact getD_wds h k
      · exact gF_lt h k
set_option maxHeartbeats 2000000 in
theorem rgreat5_any (A : Option Addr) (n c : Nat) (l : List Nat) (w : World) (hA : Row w A (f64s l)) (hW : Wds l) (hl : l.length = n) (hn : n < 1048576) :
    Calls Try.prog 37 #[.slice A n c] w fun e w' => ∃ r, e = .returned (.float .f64 r) ∧ Is r (gF l n) ∧ Below w.heap.size w w' := by
  have HA := Lib.hid hA
  have HW := Lib.hid hW
  have Hl := Lib.hid hl
  clear hA hW hl
  go_enter Try.func37, Try.ntmps37
  go_wp2_with fail
  go_loopw [4] (fun a wr => ∃ q : Nat, q ≤ n ∧ a = .int .i64 q ∧ (∀ k, k < q → Fl.nan (l.getD k 0) = false) ∧ Below w.heap.size w wr) (fun a _ => n - (intOf a).toNat)
  case atStart => exact ⟨0, Nat.zero_le _, rfl, fun k hk => by omega, Below.refl _ _⟩
  case round =>
    obtain ⟨q, hq, rfl, hno, hbl⟩ := hrel
    have HNo := Lib.hid hno
    have HBl := Lib.hid hbl
    clear hno hbl
    by_cases hlt : q < n
    · obtain ⟨b, o, rfl, hc0⟩ := HA.out.get0 (k := q) (by rw [Hl.out]; exact hlt)
      have hc := cell_below hc0 HBl.out
      have HXl := Lib.hid (getD_wds HW.out q)
      obtain ⟨x, hx⟩ : ∃ x, l.getD q 0 = x := ⟨_, rfl⟩
      rw [hx] at hc HXl
      have hqc : (q : Int) < (n : Int) := by omega
      have hq1 : q + 1 ≤ 1048576 := by omega
      have hns := nan_self x
      have HBd := Lib.hid HBl.out.drew
      clear hc0
      cases hnx : Fl.nan x
      · rw [hnx] at hns
        have HNo2 := Lib.hid (show ∀ k, k < q + 1 → Fl.nan (l.getD k 0) = false from fun k hk => by
          rcases Nat.lt_or_ge k q with h | h
          · exact HNo.out k h
          · obtain rfl : k = q := by omega
            rw [hx]; exact hnx)
        clear hx hnx
        go_wp2_with fail
        go_quiet (fail)
        go_wp2_with fail
        go_roundw
        case rel => exact ⟨q + 1, by omega, by go_num, HNo2.out, by first | exact HBd.out | exact HBl.out | exact below_drewN HBl.out _⟩
        case measure => simp [intOf]; omega
      · rw [hnx] at hns
        have HRes := Lib.hid (show Is x (gF l n) from ⟨HXl.out, .inr ⟨hnx, gF_nan_at (by rw [hx]; exact hnx) hlt⟩⟩)
        clear hx hnx
        go_wp2_with fail
        go_quiet (fail)
        go_wp2_with fail
        go_ret
        exact ⟨_, rfl, HRes.out, by first | exact HBd.out | exact HBl.out | exact below_drewN HBl.out _⟩
    · obtain rfl : q = n := by omega
      have hqc : ¬ (q : Int) < (q : Int) := by omega
      have HFin := Lib.hid (gF_fin HNo.out)
      go_wp2_with fail
      go_loopw [3, 5] (fun s a w2 => ∃ t m : Nat, t ≤ q ∧ s = .float .f64 m ∧ a = .int .i64 t ∧ m = gF l t ∧ Fl.nan m = false ∧ Below w.heap.size w w2) (fun _ a _ => q - (intOf a).toNat)
      case atStart => exact ⟨0, 0, Nat.zero_le _, rfl, rfl, rfl, by decide, HBl.out⟩
      case round =>
        obtain ⟨t, m, ht, rfl, rfl, hm, hmn, hbl2⟩ := hrel
        have HM := Lib.hid hm
        have HMn := Lib.hid hmn
        have HBl2 := Lib.hid hbl2
        clear hm hmn hbl2
        by_cases hlt2 : t < q
        · obtain ⟨b, o, rfl, hc0⟩ := HA.out.get0 (k := t) (by rw [Hl.out]; exact hlt2)
          have hc := cell_below hc0 HBl2.out
          have han := HNo.out t hlt2
          obtain ⟨x, hx⟩ : ∃ x, l.getD t 0 = x := ⟨_, rfl⟩
          rw [hx] at hc han
          have hstep := gF_step_le HM.out HMn.out hx han
          have hmn2 : Fl.nan (gF l (t + 1)) = false := by rw [← hstep]; split <;> first | exact han | exact HMn.out
          obtain ⟨gt, hgt⟩ : ∃ gt, (FloatKind.f64.format.order x m == some .gt) = gt := ⟨_, rfl⟩
          rw [hgt] at hstep
          have HSt := Lib.hid hstep
          have HMn2 := Lib.hid hmn2
          have htc : (t : Int) < (q : Int) := by omega
          have ht1 : t + 1 ≤ 1048576 := by omega
          clear hc0 hx hstep hmn2 han
          cases gt
          · go_wp2_with fail
            go_roundw
            case rel => exact ⟨t + 1, m, by omega, rfl, by go_num, by rw [← HSt.out]; rfl, HMn.out, HBl2.out⟩
            case measure => simp [intOf]; omega
          · go_wp2_with fail
            go_roundw
            case rel => exact ⟨t + 1, x, by omega, rfl, by go_num, by rw [← HSt.out]; rfl, by rw [← HSt.out] at HMn2; exact HMn2.out, HBl2.out⟩
            case measure => simp [intOf]; omega
        · obtain rfl : t = q := by omega
          have htc : ¬ (t : Int) < (t : Int) := by omega
          go_wp2_with fail
          go_ret
          exact ⟨_, rfl, by rw [← HM.out]; exact Is.refl (by rw [HM.out]; have h := HFin.out; exact gF_lt HW.out _), HBl2.out⟩
end Go.Proofs.Ytbdlfaclakppgaa
