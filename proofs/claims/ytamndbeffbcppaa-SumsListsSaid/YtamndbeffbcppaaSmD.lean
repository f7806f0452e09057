/-
The document's Asum, Most, Dot. Conditions: the lists have at most 2^20 numbers.
-/
import Derived.Test.YtamndbeffbcppaaSmC
set_option linter.unusedVariables false
set_option linter.unusedSimpArgs false
set_option linter.unnecessarySimpa false
namespace Go.Proofs.Ytamndbeffbcppaa
open Go.RowKit
attribute [local go_sem ↓] Go.wp_at_zero Go.wp_at_succ

theorem getD_wds {l : List Nat} (h : Wds l) (k : Nat) : l.getD k 0 < 18446744073709551616 := by
  rcases Nat.lt_or_ge k l.length with h1 | h1
  · rw [getD_of_lt h1]; exact h.at_ k h1
  · rw [getD_of_le h1]; omega
theorem Row.get0 {w : World} {A : Option Addr} {l : List Nat} {k : Nat} (h : Row w A (f64s l)) (hk : k < l.length) : ∃ b o, A = some ⟨b, o, none⟩ ∧ w.cell? ⟨b, o + k, none⟩ = some (.float .f64 (l.getD k 0)) := by
  obtain ⟨b, o, e, _, hc⟩ := h.at_ (f64s_get l k hk)
  exact ⟨b, o, e, by rw [getD_of_lt hk]; exact hc⟩

set_option maxHeartbeats 1000000 in
theorem rasum_any (A : Option Addr) (n c : Nat) (l : List Nat) (w : World) (hA : Row w A (f64s l)) (hW : Wds l) (hl : l.length = n) (hn : n < 1048576) :
    Calls Try.prog 31 #[.slice A n c] w fun e w' => ∃ r, e = .returned (.float .f64 r) ∧ Is r (asumF l n) ∧ Below w.heap.size w w' := by
  have HA := Lib.hid hA
  have HW := Lib.hid hW
  have Hl := Lib.hid hl
  clear hA hW hl
  go_enter Try.func31, Try.ntmps31
  go_wp2_with fail
  go_loopw [3, 4] (fun s a wr => ∃ q r : Nat, q ≤ n ∧ s = .float .f64 r ∧ a = .int .i64 q ∧ Is r (asumF l q) ∧ Below w.heap.size w wr) (fun _ a _ => n - (intOf a).toNat)
  case atStart => exact ⟨0, 0, Nat.zero_le _, rfl, rfl, is_zero, Below.refl _ _⟩
  case round =>
    obtain ⟨q, r, hq, rfl, rfl, his, hbl⟩ := hrel
    have HIs := Lib.hid his
    have HBl := Lib.hid hbl
    clear his hbl
    by_cases hlt : q < n
    · obtain ⟨b, o, rfl, hc0⟩ := HA.out.get0 (k := q) (by rw [Hl.out]; exact hlt)
      have hc := cell_below hc0 HBl.out
      have HXl := Lib.hid (getD_wds HW.out q)
      obtain ⟨x, hx⟩ : ∃ x, l.getD q 0 = x := ⟨_, rfl⟩
      rw [hx] at hc HXl
      have HSt := Lib.hid (fun r' (hr' : Comes .add r (absW x) r') => asum_step HIs.out hx hr')
      have hqc : (q : Int) < (n : Int) := by omega
      have hq1 : q + 1 ≤ 1048576 := by omega
      clear hc0 hx
      go_wp2_with fail
      refine (rabs_any x _ HXl.out).mono ?_
      rintro e w3 ⟨rfl, rfl⟩
      go_wp2_with fail
      refine (plus_any r (absW x) _).mono ?_
      rintro e w4 ⟨r', rfl, hr', hb⟩
      have HRes := Lib.hid (HSt.out _ hr')
      have HBl2 := Lib.hid (below_nx HBl.out hb)
      clear hr' hb hc
      go_wp2_with fail
      go_roundw
      case rel => exact ⟨q + 1, _, by omega, rfl, by go_num, HRes.out, HBl2.out⟩
      case measure => simp [intOf]; omega
    · obtain rfl : q = n := by omega
      have hqc : ¬ (q : Int) < (q : Int) := by omega
      go_wp2_with fail
      go_ret
      exact ⟨_, rfl, HIs.out, HBl.out⟩

set_option maxRecDepth 100000 in
set_option maxHeartbeats 1000000 in
theorem rdot_any (A B : Option Addr) (n c d : Nat) (l m : List Nat) (w : World) (hA : Row w A (f64s l)) (hB : Row w B (f64s m)) (hW : Wds l) (hW' : Wds m) (hl : l.length = n) (hm : m.length = n) (hn : n < 1048576) :
    Calls Try.prog 33 #[.slice A n c, .slice B n d] w fun e w' => ∃ r, e = .returned (.float .f64 r) ∧ Is r (dotF l m n) ∧ Below w.heap.size w w' := by
  have HA := Lib.hid hA
  have HB := Lib.hid hB
  have HW := Lib.hid hW
  have HW' := Lib.hid hW'
  have Hl := Lib.hid hl
  have Hm := Lib.hid hm
  clear hA hB hW hW' hl hm
  go_enter Try.func33, Try.ntmps33
  go_wp2_with fail
  go_loopw [5, 6] (fun s a wr => ∃ q r : Nat, q ≤ n ∧ s = .float .f64 r ∧ a = .int .i64 q ∧ Is r (dotF l m q) ∧ Below w.heap.size w wr) (fun _ a _ => n - (intOf a).toNat)
  case atStart => exact ⟨0, 0, Nat.zero_le _, rfl, rfl, is_zero, Below.refl _ _⟩
  case round =>
    obtain ⟨q, r, hq, rfl, rfl, his, hbl⟩ := hrel
    have HIs := Lib.hid his
    have HBl := Lib.hid hbl
    clear his hbl
    by_cases hlt : q < n
    · obtain ⟨b, o, rfl, hc0⟩ := HA.out.get0 (k := q) (by rw [Hl.out]; exact hlt)
      obtain ⟨b', o', rfl, hc0'⟩ := HB.out.get0 (k := q) (by rw [Hm.out]; exact hlt)
      have hc := cell_below hc0 HBl.out
      have hc' := cell_below hc0' HBl.out
      have HXl := Lib.hid (getD_wds HW.out q)
      have HYl := Lib.hid (getD_wds HW'.out q)
      obtain ⟨x, hx⟩ : ∃ x, l.getD q 0 = x := ⟨_, rfl⟩
      obtain ⟨y, hy⟩ : ∃ y, m.getD q 0 = y := ⟨_, rfl⟩
      rw [hx] at hc HXl
      rw [hy] at hc' HYl
      have HSt := Lib.hid (fun p r' (hp : Comes .mul x y p) (hr' : Comes .add r p r') => dot_step HIs.out hx hy HXl.out HYl.out hp hr')
      have hqc : (q : Int) < (n : Int) := by omega
      have hq1 : q + 1 ≤ 1048576 := by omega
      have HBd := Lib.hid HBl.out.drew
      clear hc0 hx hc0' hy
      go_wp2_with fail
      go_region_held3 (fun w' => w'.cell? ⟨b, o + q, none⟩ = some (.float .f64 x) ∧ w'.cell? ⟨b', o' + q, none⟩ = some (.float .f64 y) ∧ Below wr.heap.size wr w')
        (first | exact ⟨hc, hc', (Below.refl _ wr).drew⟩ | exact ⟨cell_below (‹_ ∧ _ ∧ Below wr.heap.size wr _›).1 hbA, cell_below (‹_ ∧ _ ∧ Below wr.heap.size wr _›).2.1 hbA, below_nx (‹_ ∧ _ ∧ Below wr.heap.size wr _›).2.2 hbA⟩)
        (first
          | (go_at_call 58; refine (times_any x y _).mono ?_; rintro e1 wA ⟨p, rfl, hp, hbA⟩; skip)
          | (go_at_call 34; refine (plus_any r p _).mono ?_; rintro e1 wA ⟨r', rfl, hr', hbA⟩; skip))
      have HRes := Lib.hid (HSt.out p r' hp hr')
      have HBr := Lib.hid (below_nx HBl.out (‹_ ∧ _ ∧ Below wr.heap.size wr _›).2.2)
      clear hp hr'
      go_wp2_with fail
      go_roundw
      case rel => exact ⟨q + 1, r', by omega, rfl, by go_num, HRes.out, HBr.out⟩
      case measure => simp [intOf]; omega
    · obtain rfl : q = n := by omega
      have hqc : ¬ (q : Int) < (q : Int) := by omega
      go_wp2_with fail
      go_ret
      exact ⟨_, rfl, HIs.out, HBl.out⟩

set_option maxRecDepth 100000 in
set_option maxHeartbeats 1000000 in
theorem rmost_any (A : Option Addr) (n c : Nat) (l : List Nat) (w : World) (hA : Row w A (f64s l)) (hW : Wds l) (hl : l.length = n) (hn : n < 1048576) :
    Calls Try.prog 32 #[.slice A n c] w fun e w' => e = .returned (.int .i64 (mostI l)) ∧ Below w.heap.size w w' := by
  have HA := Lib.hid hA
  have HW := Lib.hid hW
  have Hl := Lib.hid hl
  have HM := Lib.hid (show mostI l = if n = 0 then -1 else (mostF l n : Int) by unfold mostI; rw [hl])
  clear hA hW hl
  by_cases h0 : n = 0
  · subst h0
    go_enter Try.func32, Try.ntmps32
    go_wp2_with fail
    go_ret
    exact ⟨by rw [HM.out]; rfl, Below.refl _ _⟩
  have k0 : ((n : Int) == 0) = false := by simp [h0]
  go_enter Try.func32, Try.ntmps32
  go_wp2_with fail
  go_loopw [3, 4] (fun b a wr => ∃ q t : Nat, 1 ≤ q ∧ q ≤ n ∧ b = .int .i64 t ∧ a = .int .i64 q ∧ t = mostF l q ∧ Below w.heap.size w wr) (fun _ a _ => n - (intOf a).toNat)
  case atStart => exact ⟨1, 0, by omega, by omega, rfl, rfl, by simp [mostF], Below.refl _ _⟩
  case round =>
    obtain ⟨q, t, hq1, hq, rfl, rfl, ht, hbl⟩ := hrel
    have HT := Lib.hid ht
    have HBl := Lib.hid hbl
    clear ht hbl
    by_cases hlt : q < n
    · have htq : t < n := by rw [HT.out]; have := mostF_lt l q hq1; omega
      have hstep : mostF l (q + 1) = if gtB (absW (l.getD q 0)) (absW (l.getD t 0)) then q else t := by rw [mostF, ← HT.out]
      obtain ⟨b, o, rfl, hc0⟩ := HA.out.get0 (k := q) (by rw [Hl.out]; exact hlt)
      obtain ⟨b', o', e', hc0'⟩ := HA.out.get0 (k := t) (by rw [Hl.out]; exact htq)
      obtain ⟨rfl, rfl⟩ : b = b' ∧ o = o' := by simpa using e'
      have hc := cell_below hc0 HBl.out
      have hc' := cell_below hc0' HBl.out
      have hxl := getD_wds HW.out q
      have hyl := getD_wds HW.out t
      obtain ⟨x, hx⟩ : ∃ x, l.getD q 0 = x := ⟨_, rfl⟩
      obtain ⟨y, hy⟩ : ∃ y, l.getD t 0 = y := ⟨_, rfl⟩
      rw [hx] at hc hxl hstep
      rw [hy] at hc' hyl hstep
      have HAb := Lib.hid (fun W => rabs_any x W hxl)
      have HAb' := Lib.hid (fun W => rabs_any y W hyl)
      have HSt := Lib.hid hstep
      have hqc : (q : Int) < (n : Int) := by omega
      have htc : (t : Int) < (n : Int) := by omega
      have hq2 : q + 1 ≤ 1048576 := by omega
      clear hc0 hx hc0' hy hxl hyl hstep e'
      obtain ⟨gt, hgt⟩ : ∃ gt, gtB (absW x) (absW y) = gt := ⟨_, rfl⟩
      rw [hgt] at HSt
      have hgt2 : (FloatKind.f64.format.order (absW x) (absW y) == some .gt) = gt := hgt
      have HBd := Lib.hid HBl.out.drew
      clear hgt
      go_wp2_with fail
      go_region_held3 (fun w' => w'.cell? ⟨b, o + q, none⟩ = some (.float .f64 x) ∧ w'.cell? ⟨b, o + t, none⟩ = some (.float .f64 y) ∧ Below wr.heap.size wr w')
        (first | exact ⟨hc, hc', (Below.refl _ wr).drew⟩ | assumption)
        (first
          | (go_at_call 57; (with_reducible refine (HAb.out _).mono ?_); rintro e1 wA ⟨rfl, rfl⟩; skip)
          | (go_at_call 57; (with_reducible refine (HAb'.out _).mono ?_); rintro e1 wA ⟨rfl, rfl⟩; skip))
      have HBr := Lib.hid (below_nx HBl.out (‹_ ∧ _ ∧ Below wr.heap.size wr _›).2.2)
      cases gt
      · go_wp2_with fail
        go_roundw
        case rel => exact ⟨q + 1, t, by omega, by omega, rfl, by go_num, by rw [HSt.out]; rfl, HBr.out⟩
        case measure => simp [intOf]; omega
      · go_wp2_with fail
        go_roundw
        case rel => exact ⟨q + 1, q, by omega, by omega, rfl, by go_num, by rw [HSt.out]; rfl, HBr.out⟩
        case measure => simp [intOf]; omega
    · obtain rfl : q = n := by omega
      have hqc : ¬ (q : Int) < (q : Int) := by omega
      go_wp2_with fail
      go_ret
      exact ⟨by have e := HM.out; rw [if_neg h0, ← HT.out] at e; rw [e]; first | rfl | simp, HBl.out⟩
end Go.Proofs.Ytamndbeffbcppaa
