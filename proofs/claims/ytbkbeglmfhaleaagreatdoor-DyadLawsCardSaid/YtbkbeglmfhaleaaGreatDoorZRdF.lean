/-
The document's Shift. Conditions: the digits are at most 2^30, the exponents within 10^17.
-/
import Derived.Test.YtbkbeglmfhaleaaGreatDoorUcb
import Derived.Test.YtbkbeglmfhaleaaGreatDoorUca
set_option linter.unusedVariables false
namespace Go.Proofs.YtbkbeglmfhaleaaGreatDoor
open Go.RowKit
attribute [local go_sem ↓] Go.wp_at_zero Go.wp_at_succ

theorem ints_arr (M : List Nat) (i : Nat) (h : i < M.length) : (ints M).toArray[i]? = some (.int .i64 (M[i] : Int)) := by
  rw [List.getElem?_toArray]; exact ints_get M i h
theorem ints_set (M : List Nat) (i v : Nat) : (ints M).toArray.setIfInBounds i (.int .i64 (v : Int)) = (ints (M.set i v)).toArray := by
  simp [ints, List.map_set]
theorem imade_zero (n : Nat) : madeCells #[.int .i64 0] n = (ints (List.replicate n 0)).toArray := by
  refine Array.ext_getElem? fun i => ?_
  rw [List.getElem?_toArray]
  unfold madeCells ints
  by_cases h : i < n
  · simp [h, Nat.mod_one]
  · simp [h]
theorem irun_make (n : Nat) (hn : n ≤ 1099511627776) (W : World) :
    (Instr.makeSlice 28 (.int .i64 (n : Int)) (.int .i64 (n : Int))).run Tryz.prog W = .ok (.slice (some ⟨W.heap.size, 0, none⟩) n n) (W.alloc (.cells (ints (List.replicate n 0)).toArray 3)) := by
  rw [← imade_zero]
  exact run_make_row' _ _ _ 8 Tryz.underlying28 info_i64 rfl _ _ n (by omega) (by omega) W
theorem pow15 {r : Nat} (h : r ≤ 15) : 2 ^ r ≤ 32768 := Nat.pow_le_pow_right (by omega) h
theorem wrap_small {y : Nat} (h : y ≤ 4294967296) : wrap64 (y : Int) = (y : Int) := by unfold wrap64; omega
theorem wrap_mid {E q : Int} (h : q.natAbs ≤ 10000000000000000) (h' : E.natAbs ≤ 100000000000000000) : wrap64 (E + q) = E + q := by unfold wrap64; omega
theorem rdy_shift {neg : Bool} {l M : List Nat} {E k : Int} {r : Nat} (hr : (r : Int) = k % 16) (h : ofd 65536 M = ofd 65536 l * 2 ^ r) :
    rdy neg M (E + k / 16) = dy (if neg then -(ofd 65536 l : Int) else (ofd 65536 l : Int)) (16 * E + k) := by
  unfold rdy
  rw [h, show 16 * E + k = 16 * (E + k / 16) + (r : Int) by omega, ← dy_pow]
  congr 1
  cases neg <;> simp [Int.neg_mul]

set_option maxHeartbeats 2000000 in
theorem rshift_any (neg : Bool) (A : Option Addr) (n c : Nat) (l : List Nat) (E k : Int) (w : World) (h : Rd w A n c l) (hn : n ≤ 1073741824) (hE : E.natAbs ≤ 100000000000000000) (hk : k.natAbs ≤ 100000000000000000) :
    Calls Tryz.prog 22 #[.agg #[.bool neg, .slice A n c, .int .i64 E], .int .i64 k] w (RetR (dy (if neg then -(ofd 65536 l : Int) else (ofd 65536 l : Int)) (16 * E + k)) w) := by
  obtain ⟨r, hr⟩ : ∃ r : Nat, (r : Int) = k % 16 := ⟨(k % 16).toNat, by omega⟩
  obtain ⟨q, hq⟩ : ∃ q : Int, k / 16 = q := ⟨_, rfl⟩
  have hr15 : r ≤ 15 := by omega
  obtain ⟨m, hm⟩ : ∃ m, n + 1 = m := ⟨_, rfl⟩
  have hmk := fun V => irun_make m (by omega) V
  have H := Lib.hid h
  obtain ⟨D, hD⟩ : ∃ D, dy (if neg then -(ofd 65536 l : Int) else (ofd 65536 l : Int)) (16 * E + k) = D := ⟨_, rfl⟩
  have HD := Lib.hid hD
  have HR := Lib.hid hr
  have HQ := Lib.hid hq
  have HE := Lib.hid (show q.natAbs ≤ 10000000000000000 ∧ E.natAbs ≤ 100000000000000000 by omega)
  have HF := Lib.hid (fun W => floor_any k W (by omega) (by omega))
  rw [hq, ← hr] at HF
  rw [hD]
  have en : (n : Int) + 1 = (m : Int) := by omega
  have HM := Lib.hid hm
  clear hD hE hk hr hq h hm
  go_enter Tryz.func22, Tryz.ntmps22
  go_wp2_with fail
  refine (HF.out _).mono ?_
  rintro e w' ⟨rfl, rfl⟩
  go_wp2_with fail
  have hb0 := ((Blk.new w 30 #[.bool neg, .slice A n c, .int .i64 E]).alloc (.cells #[.bool false, .slice none 0 0, .int .i64 0] 30)).alloc (.cells (ints (List.replicate m 0)).toArray 3)
  have hb1 := (Blk.new_ (w.alloc (.cells #[.bool neg, .slice A n c, .int .i64 E] 30)) 30 #[.bool false, .slice none 0 0, .int .i64 0] (w.heap.size + 1) (by simp)).alloc (.cells (ints (List.replicate m 0)).toArray 3)
  have hb2 := Blk.new_ ((w.alloc (.cells #[.bool neg, .slice A n c, .int .i64 E] 30)).alloc (.cells #[.bool false, .slice none 0 0, .int .i64 0] 30)) 3 (ints (List.replicate m 0)).toArray (w.heap.size + 1 + 1) (by simp)
  have hbl : Below w.heap.size w _ := (((Below.refl w.heap.size w).alloc (Nat.le_refl _) (.cells #[.bool neg, .slice A n c, .int .i64 E] 30)).alloc (by simp) (.cells #[.bool false, .slice none 0 0, .int .i64 0] 30)).alloc (by simp; omega) (.cells (ints (List.replicate m 0)).toArray 3)
  have HB0 := Lib.hid hb0
  have HB1 := Lib.hid hb1
  have HB2 := Lib.hid hb2
  have HBl := Lib.hid hbl
  clear hb0 hb1 hb2 hbl
  go_loopw [8] (fun i wr => ∃ (a : Nat) (M : List Nat), a ≤ n ∧ i = .int .i64 (a : Int) ∧ Hid (Sh l r a M ∧ Blk wr (w.heap.size + 1 + 1) 3 (ints M).toArray ∧ Blk wr w.heap.size 30 #[.bool neg, .slice A n c, .int .i64 E] ∧ Blk wr (w.heap.size + 1) 30 #[.bool false, .slice none 0 0, .int .i64 0] ∧ Below w.heap.size w wr)) (fun i _ => n - (intOf i).toNat)
  case atStart => exact ⟨0, List.replicate m 0, Nat.zero_le _, rfl, Lib.hid ⟨by rw [← HM.out, H.out.1]; exact Sh.zero l r, HB2.out, HB0.out, HB1.out, HBl.out⟩⟩
  case round =>
    obtain ⟨a, M, han, rfl, HS⟩ := hrel
    obtain ⟨c0, c1, c2⟩ := cells3 HS.out.2.2.1
    by_cases hlt : a < n
    · have hal : a < l.length := by rw [← H.out.1]; exact hlt
      have hlt1 : (a : Int) < (n : Int) := by omega
      obtain ⟨b, o, rfl, hbw, hcell0⟩ := H.out.2.2.1.at_ (ints_get l a hal)
      have hcell := cell_below hcell0 HS.out.2.2.2.2
      have hstep := HS.out.1.step H.out.2.2.2.1 hal hr15
      have hroom := shift_room (H.out.2.2.2.1.get a hal) hr15 HS.out.1.2.2.1
      have hMl := HS.out.1.1
      have haM : a < M.length := by omega
      have hMa : M.getD a 0 = M[a] := by simp [List.getD, haM]
      have hd := H.out.2.2.2.1.get a hal
      rw [hMa] at hstep hroom
      have x0 := HS.out.2.1.cell a
      rw [ints_arr M a haM] at x0
      have x1 := HS.out.2.1.frozen a
      generalize l[a] = d at *
      generalize hx : M[a] = x at *
      obtain ⟨p, hp⟩ : ∃ p, 2 ^ r = p := ⟨_, rfl⟩
      have HPw := Lib.hid (fun W => power_any r W (by omega))
      rw [hp] at HPw hstep hroom
      have hpb : p ≤ 32768 := by rw [← hp]; exact pow15 hr15
      obtain ⟨v, hv⟩ : ∃ v, d * p = v := ⟨_, rfl⟩
      rw [hv] at hstep hroom
      have hvb : v ≤ 2147483648 := by rw [← hv]; exact Nat.mul_le_mul (Nat.le_of_lt hd) hpb
      have e1 : (d : Int) * (p : Int) = (v : Int) := by rw [← hv]; simp
      obtain ⟨v1, hv1⟩ : ∃ v1, v % 65536 = v1 := ⟨_, rfl⟩
      obtain ⟨v2, hv2⟩ : ∃ v2, v / 65536 = v2 := ⟨_, rfl⟩
      obtain ⟨y, hy⟩ : ∃ y, x + v1 = y := ⟨_, rfl⟩
      rw [hv1, hv2] at hroom hstep
      rw [hy] at hroom hstep
      have e2 : (v : Int) % 65536 = (v1 : Int) := by omega
      have e3 : (v : Int) / 65536 = (v2 : Int) := by omega
      have e4 : (x : Int) + (v1 : Int) = (y : Int) := by omega
      have e5 : IntKind.i64.wrap (v : Int) = (v : Int) := IntWalk.i64_in _ (by omega)
      have e6 : (a : Int) + 1 = ((a + 1 : Nat) : Int) := by omega
      have e7 : a < m := by have := HM.out; omega
      have e8 : a + 1 < m := by have := HM.out; omega
      have ha1 : a + 1 < M.length := by omega
      have x2 := HS.out.2.1.cell (a + 1)
      rw [ints_arr M (a + 1) ha1] at x2
      have x3 := HS.out.2.1.frozen (a + 1)
      generalize M[a + 1] = x' at *
      have e9 : wrap64 (y : Int) = (y : Int) := wrap_small (by omega)
      have e10 : wrap64 (v2 : Int) = (v2 : Int) := wrap_small (by omega)
      have HStep := Lib.hid hstep
      have hs1 := HS.out.2.1.set_ a (.int .i64 (y : Int))
      rw [ints_set] at hs1
      have HC := Lib.hid (⟨c1, hcell⟩ : _ ∧ _)
      have HS1 := Lib.hid hs1
      have HLT := Lib.hid (And.intro hlt han)
      clear hstep hs1 hroom hv hv1 hv2 hy hp hMa hMl hcell0 hvb hpb e6
      go_wp2_with fail
      go_region_held3 (fun w' => w'.cell? ⟨w.heap.size, 1, none⟩ = some (.slice (some ⟨b, o, none⟩) n c) ∧ w'.cell? ⟨b, o + a, none⟩ = some (.int .i64 (d : Int)))
        (first | go_keep | exact ⟨c1, hcell⟩)
        ((go_at_call 57; refine (HPw.out _).mono ?_; rintro e wp ⟨rfl, rfl⟩; skip))
      go_wp2_with fail
      go_roundw
      case rel =>
        have hlt := HLT.out.1
        refine ⟨a + 1, (M.set a y).set (a + 1) v2, by omega, by go_num, Lib.hid ⟨HStep.out, ?_, ?_, ?_, ?_⟩⟩
        · have h2 := HS1.out.set_ (a + 1) (.int .i64 (v2 : Int))
          rw [ints_set] at h2
          exact h2.drew
        · exact ((HS.out.2.2.1.other (by simp; omega) _).other (by simp; omega) _).drew
        · exact ((HS.out.2.2.2.1.other (by simp) _).other (by simp) _).drew
        · exact ((HS.out.2.2.2.2.setCell (by simp; omega) _).setCell (by simp; omega) _).drew
      case measure => have := HLT.out.1; simp [intOf]; omega
    · obtain rfl : a = n := by omega
      have hbb : ¬ (a : Int) < (a : Int) := by omega
      have hE1 : wrap64 (E + q) = E + q := wrap_mid HE.out.1 HE.out.2
      have hdone := HS.out.1
      rw [H.out.1] at hdone
      obtain ⟨hDg, hof⟩ := hdone.done
      have hlm : m = M.length := by rw [HS.out.1.1, ← H.out.1, HM.out]
      have hRd : Rd wr (some ⟨w.heap.size + 1 + 1, 0, none⟩) m m M := ⟨hlm, Nat.le_refl _, .inr ⟨w.heap.size + 1 + 1, 0, rfl, fun i v hi => by
        rw [Nat.zero_add, HS.out.2.1.cell i, List.getElem?_toArray]; exact hi⟩, hDg, fun b y e _ => by
        injection e with e; injection e with e1 e2
        subst e1
        exact IntB.of_blk HS.out.2.1⟩
      have hval : rdy neg M (E + q) = D := by
        rw [← HQ.out, rdy_shift HR.out hof]; exact HD.out
      have HRd := Lib.hid hRd
      have HVal := Lib.hid hval
      have HBd := Lib.hid (show m ≤ 1099511627776 ∧ (E + q).natAbs ≤ 1000000000000000000 by have := HE.out; have := HM.out; omega)
      have HB1' := Lib.hid HS.out.2.2.2.1
      have HBl' := Lib.hid HS.out.2.2.2.2
      clear hRd hval hDg hof hdone hlm
      go_wp2_with fail
      refine (made_any neg _ m m M (E + q) wr HRd.out HBd.out.1 HBd.out.2 (by have := HBd.out.1; omega)).mono ?_
      rintro e w2 ⟨ng', A', n', c', E', L', rfl, hR', hN, hd, hb⟩
      have hB2 := HB1'.out.next hb
      have HB2 := Lib.hid hB2
      have f0 := hB2.frozen 0
      have f1 := hB2.frozen 1
      have f2 := hB2.frozen 2
      obtain ⟨r0, r1, r2⟩ := cells3 hB2
      have HR' := Lib.hid hR'
      have HN := Lib.hid hN
      have HDd := Lib.hid hd
      have HBl2 := Lib.hid (HBl'.out.trans (hb.mono HBl'.out.size))
      clear hb hB2 hR' hN hd c0 c1 c2
      go_wp2_with fail
      obtain ⟨q0, q1, q2⟩ := cells3 (Blk.store3 HB2.out (.bool ng') (.slice A' n' c') (.int .i64 E'))
      exact bodyPost_ret (v := .agg #[.bool ng', .slice A' n' c', .int .i64 E']) (by simp [results, Tryz.results22, go_sem, q0, q1, q2]) rfl
        ⟨ng', A', n', c', E', L', rfl, Rd.store3 HR'.out HN.out HB2.out _ _ _, HN.out, HDd.out.trans HVal.out, ((HBl2.out.setCell (p := ⟨w.heap.size + 1, 0, none⟩) (by simp) _).setCell (p := ⟨w.heap.size + 1, 1, none⟩) (by simp) _).setCell (p := ⟨w.heap.size + 1, 2, none⟩) (by simp) _⟩
end Go.Proofs.YtbkbeglmfhaleaaGreatDoor
