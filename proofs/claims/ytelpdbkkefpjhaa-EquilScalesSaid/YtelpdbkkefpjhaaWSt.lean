/-
The document's Shift. Conditions: the digits are at most 2^30, the exponents within 10^17.
-/
import Derived.Test.YtelpdbkkefpjhaaWSs
import Derived.Test.YtelpdbkkefpjhaaWSr
set_option linter.unusedVariables false
namespace Go.Proofs.Ytelpdbkkefpjhaa
open Go.RowKit
attribute [local go_sem ↓] Go.wp_at_zero Go.wp_at_succ

theorem ints_arr (M : List Nat) (i : Nat) (h : i < M.length) : (ints M).toArray[i]? = some (.int .i64 (M[i] : Int)) := by
  rw [List.getElem?_toArray]; exact ints_get M i h
theorem ints_set (M : List Nat) (i v : Nat) : (ints M).toArray.setIfInBounds i (.int .i64 (v : Int)) = (ints (M.set i v)).toArray := by
  simp [ints, List.map_set]
theorem imade_zero (n : Nat) : madeCells #[.int .i64 0] n = (ints (List.replicate n 0)).toArray := by
  refine Array.ext_getElem? fun i => ?_
  rw [List.getElem?_toArray]
  unfold madeCells ints
  by_cases h : i < n
  · simp [h, Nat.mod_one]
  · simp [h]
theorem irun_make (n : Nat) (hn : n ≤ 1099511627776) (W : World) :
    (Instr.makeSlice 27 (.int .i64 (n : Int)) (.int .i64 (n : Int))).run Try.prog W = .ok (.slice (some ⟨W.heap.size, 0, none⟩) n n) (W.alloc (.cells (ints (List.replicate n 0)).toArray 3)) := by
  rw [← imade_zero]
  exact run_make_row' _ _ _ 8 Try.underlying27 info_i64 rfl _ _ n (by omega) (by omega) W
theorem pow15 {r : Nat} (h : r ≤ 15) : 2 ^ r ≤ 32768 := Nat.pow_le_pow_right (by omega) h
theorem wrap_small {y : Nat} (h : y ≤ 4294967296) : wrap64 (y : Int) = (y : Int) := by unfold wrap64; omega
theorem wrap_mid {E q : Int} (h : q.natAbs ≤ 10000000000000000) (h' : E.natAbs ≤ 100000000000000000) : wrap64 (E + q) = E + q := by unfold wrap64; omega
theorem rdy_shift {neg : Bool} {l M : List Nat} {E k : Int} {r : Nat} (hr : (r : Int) = k % 16) (h : ofd 65536 M = ofd 65536 l * 2 ^ r) :
    rdy neg M (E + k / 16) = dy (if neg then -(ofd 65536 l : Int) else (ofd 65536 l : Int)) (16 * E + k) := by
  unfold rdy
  rw [h, show 16 * E + k = 16 * (E + k / 16) + (r : Int) by omega, ← dy_pow]
  congr 1
  cases neg <;> simp [Int.neg_mul]

set_option maxHeartbeats 2000000 in
theorem rshift_any (neg : Bool) (A : Option Addr) (n c : Nat) (l : List Nat) (E k : Int) (w : World) (h : Rd w A n c l) (hn : n ≤ 1073741824) (hE : E.natAbs ≤ 100000000000000000) (hk : k.natAbs ≤ 100000000000000000) :
    Calls Try.prog 47 #[.agg #[.bool neg, .slice A n c, .int .i64 E], .int .i64 k] w (RetR (dy (if neg then -(ofd 65536 l : Int) else (ofd 65536 l : Int)) (16 * E + k)) w) := by
  obtain ⟨r, hr⟩ : ∃ r : Nat, (r : Int) = k % 16 := ⟨(k % 16).toNat, by omega⟩
  obtain ⟨q, hq⟩ : ∃ q : Int, k / 16 = q := ⟨_, rfl⟩
  have hr15 : r ≤ 15 := by omega
  obtain ⟨m, hm⟩ : ∃ m, n + 1 = m := ⟨_, rfl⟩
  have hmk := fun V => irun_make m (by omega) V
  have H := Lib.hid h
  obtain ⟨D, hD⟩ : ∃ D, dy (if neg then -(ofd 65536 l : Int) else (ofd 65536 l : Int)) (16 * E + k) = D := ⟨_, rfl⟩
  have HD := Lib.hid hD
  have HR := Lib.hid hr
  have HQ := Lib.hid hq
  have HE := Lib.hid (show q.natAbs ≤ 10000000000000000 ∧ E.natAbs ≤ 100000000000000000 by omega)
  have HF := Lib.hid (fun W => floor_any k W (by omega) (by omega))
  rw [hq, ← hr] at HF
  rw [hD]
  have en : (n : Int) + 1 = (m : Int) := by omega
  have HM := Lib.hid hm
  clear hD hE hk hr hq h hm
  go_enter Try.func47, Try.ntmps47
  go_wp2_with fail
  refine (HF.out _).mono ?_
  rintro e w' ⟨rfl, rfl⟩
  go_wp2_with fail
  have hb0 := ((Blk.new w 69 #[.bool neg, .slice A n c, .int .i64 E]).alloc (.cells #[.bool false, .slice none 0 0, .int .i64 0] 69)).alloc (.cells (ints (List.replicate m 0)).toArray 3)
  have hb1 := (Blk.new_ (w.alloc (.cells #[.bool neg, .slice A n c, .int .i64 E] 69)) 69 #[.bool false, .slice none 0 0, .int .i64 0] (w.heap.size + 1) (by simp)).alloc (.cells (ints (List.replicate m 0)).toArray 3)
  have hb2 := Blk.new_ ((w.alloc (.cells #[.bool neg, .slice A n c, .int .i64 E] 69)).alloc (.cells #[.bool false, .slice none 0 0, .int .i64 0] 69)) 3 (ints (List.replicate m 0)).toArray (w.heap.size + 1 + 1) (by simp)
  have hbl : Below w.heap.size w _ := (((Below.refl w.heap.size w).alloc (Nat.le_refl _) (.cells #[.bool neg, .slice A n c, .int .i64 E] 69)).alloc (by simp) (.cells #[.bool false, .slice none 0 0, .int .i64 0] 69)).alloc (by simp; omega) (.cells (ints (List.replicate m 0)).toArray 3)
  have HB0 := Lib.hid hb0
  have HB1 := Lib.hid hb1
  have HB2 := Lib.hid hb2
  have HBl := Lib.hid hbl
  clear hb0 hb1 hb2 hbl
  go_loopw [8] (fun i wr => ∃ (a : Nat) (M : List Nat), a ≤ n ∧ i = .int .i64 (a : Int) ∧ Hid (Sh l r a M ∧ Blk wr (w.heap.size + 1 + 1) 3 (ints M).toArray ∧ Blk wr w.heap.size 69 #[.bool neg, .slice A n c, .int .i64 E] ∧ Blk wr (w.heap.size + 1) 69 #[.bool false, .slice none 0 0, .int .i64 0] ∧ Below w.heap.size w wr)) (fun i _ => n - (intOf i).toNat)
  case atStart => exact ⟨0, List.replicate m 0, Nat.zero_le _, rfl, Lib.hid ⟨by rw [← HM.out, H.out.1]; exact Sh.zero l r, HB2.out, HB0.out, HB1.out, HBl.out⟩⟩
  case round =>
    obtain ⟨a, M, han, rfl, HS⟩ := hrel
    obtain ⟨c0, c1, c2⟩ := cells3 HS.out.2.2.1
    by_cases hlt : a < n
    · have hal : a < l.length := by rw [← H.out.1]; exact hlt
      have hlt1 : (a : Int) < (n : Int) := by omega
      obtain ⟨b, o, rfl, hbw, hcell0⟩ := H.out.2.2.1.at_ (ints_get l a hal)
      have hcell := cell_below hcell0 HS.out.2.2.2.2
      have hstep := HS.out.1.step H.out.2.2.2.1 hal hr15
      have hroom := shift_room (H.out.2.2.2.1.get a hal) hr15 HS.out.1.2.2.1
      have hMl := HS.out.1.1
      have haM : a < M.length := by omega
      have hMa : M.getD a 0 = M[a] := by simp [List.getD, haM]
      have hd := H.out.2.2.2.1.get a hal
      rw [hMa] at hstep hroom
      have x0 := HS.out.2.1.cell a
      rw [ints_arr M a haM] at x0
      have x1 := HS.out.2.1.frozen a
      generalize l[a] = d at *
      generalize hx : M[a] = x at *
      obtain ⟨p, hp⟩ : ∃ p, 2 ^ r = p := ⟨_, rfl⟩
      have HPw := Lib.hid (fun W => power_any r W (by omega))
      rw [hp] at HPw hstep hroom
      have hpb : p ≤ 32768 := by rw [← hp]; exact pow15 hr15
      obtain ⟨v, hv⟩ : ∃ v, d * p = v := ⟨_, rfl⟩
      rw [hv] at hstep hroom
      have hvb : v ≤ 2147483648 := by rw [← hv]; exact Nat.mul_le_mul (Nat.le_of_lt hd) hpb
      have e1 : (d : Int) * (p : Int) = (v : Int) := by rw [← hv]; simp
      obtain ⟨v1, hv1⟩ : ∃ v1, v % 65536 = v1 := ⟨_, rfl⟩
      obtain ⟨v2, hv2⟩ : ∃ v2, v / 65536 = v2 := ⟨_, rfl⟩
      obtain ⟨y, hy⟩ : ∃ y, x + v1 = y := ⟨_, rfl⟩
      rw [hv1, hv2] at hroom hstep
      rw [hy] at hroom hstep
      have e2 : (v : Int) % 65536 = (v1 : Int) := by omega
      have e3 : (v : Int) / 65536 = (v2 : Int) := by omega
      have e4 : (x : Int) + (v1 : Int) = (y : Int) := by omega
      have e5 : IntKind.i64.wrap (v : Int) = (v : Int) := IntWalk.i64_in _ (by omega)
      have e6 : (a : Int) + 1 = ((a + 1 : Nat) : Int) := by omega
      have e7 : a < m := by have := HM.out; omega
      have e8 : a + 1 < m := by have := HM.out; omega
      have ha1 : a + 1 < M.length := by omega
      have x2 := HS.out.2.1.cell (a + 1)
      rw [ints_arr M (a + 1) ha1] at x2
      have x3 := HS.out.2.1.frozen (a + 1)
      generalize M[a + 1] = x' at *
      have e9 : wrap64 (y : Int) = (y : Int) := wrap_small (by omega)
      have e10 : wrap64 (v2 : Int) = (v2 : Int) := wrap_small (by omega)
      have HStep := Lib.hid hstep
      have hs1 := HS.out.2.1.set_ a (.int .i64 (y : Int))
      rw [ints_set] at hs1
      have HC := Lib.hid (⟨c1, hcell⟩ : _ ∧ _)
      have HS1 := Lib.hid hs1
      have HLT := Lib.hid (And.intro hlt han)
      clear hstep hs1 hroom hv hv1 hv2 hy hp hMa hMl hcell0 hvb hpb e6
      go_wp2_with fail
      go_region_held3 (fun w' => w'.cell? ⟨w.heap.size, 1, none⟩ = some (.slice (some ⟨b, o, none⟩) n c) ∧ w'.cell? ⟨b, o + a, none⟩ = some (.int .i64 (d : Int)))
        (first | go_keep | exact ⟨c1, hcell⟩)
        ((go_at_call 67; refine (HPw.out _).mono ?_; rintro e wp ⟨rfl, rfl⟩; skip))
      go_wp2_with fail
      go_roundw
      case rel =>
        have hlt := HLT.out.1
        refine ⟨a + 1, (M.set a y).set (a + 1) v2, by omega, by go_num, Lib.hid ⟨HStep.out, ?_, ?_, ?_, ?_⟩⟩
        · have h2 := HS1.out.set_ (a + 1) (.int .i64 (v2 : Int))
          rw [ints_set] at h2
          exact h2.drew
        · exact ((HS.out.2.2.1.other (by simp; omega) _).other (by simp; omega) _).drew
        · exact ((HS.out.2.2.2.1.other (by simp) _).other (by simp) _).drew
        · exact ((HS.out.2.2.2.2.setCell (by simp; omega) _).setCell (by simp; omega) _).drew
      case measure => have := HLT.out.1; simp [intOf]; omega
    · obtain rfl : a = n := by omega
      have hbb : ¬ (a : Int) < (a : Int) := by omega
      have hE1 : wrap64 (E + q) = E + q := wrap_mid HE.out.1 HE.out.2
      have hdone := HS.out.1
      rw [H.out.1] at hdone
      obtain ⟨hDg, hof⟩ := hdone.done
      have hlm : m = M.length := by rw [HS.out.1.1, ← H.out.1, HM.out]
      have hRd : Rd wr (some ⟨w.heap.size + 1 + 1, 0, none⟩) m m M := ⟨hlm, Nat.le_refl _, .inr ⟨w.heap.size + 1 + 1, 0, rfl, fun i v hi => by
        rw [Nat.zero_add, HS.out.2.1.cell i, List.getElem?_toArray]; exact hi⟩, hDg, fun b y e _ => by
        injection e with e; injection e with e1 e2
        subst e1
        exact IntB.of_blk HS.out.2.1⟩
      have hval : rdy neg M (E + q) = D := by
        rw [← HQ.out, rdy_shift HR.out hof]; exact HD.out
      have HRd := Lib.hid hRd
      have HVal := Lib.hid hval
      have HBd := Lib.hid (show m ≤ 1099511627776 ∧ (E + q).natAbs ≤ 1000000000000000000 by have := HE.out; have := HM.out; omega)
      have HB1' := Lib.hid HS.out.2.2.2.1
      have HBl' := Lib.hid HS.out.2.2.2.2
      clear hRd hval hDg hof hdone hlm
      go_wp2_with fail
      refine (made_any neg _ m m M (E + q) wr HRd.out HBd.out.1 HBd.out.2 (by have := HBd.out.1; omega)).mono ?_
      rintro e w2 ⟨ng', A', n', c', E', L', rfl, hR', hN, hd, hb⟩
      have hB2 := HB1'.out.next hb
      have HB2 := Lib.hid hB2
      have f0 := hB2.frozen 0
      have f1 := hB2.frozen 1
      have f2 := hB2.frozen 2
      obtain ⟨r0, r1, r2⟩ := cells3 hB2
      have HR' := Lib.hid hR'
      have HN := Lib.hid hN
      have HDd := Lib.hid hd
      have HBl2 := Lib.hid (HBl'.out.trans (hb.mono HBl'.out.size))
      clear hb hB2 hR' hN hd c0 c1 c2
      go_wp2_with fail
      obtain ⟨q0, q1, q2⟩ := cells3 (Blk.store3 HB2.out (.bool ng') (.slice A' n' c') (.int .i64 E'))
      exact bodyPost_ret (v := .agg #[.bool ng', .slice A' n' c', .int .i64 E']) (by simp [results, Try.results47, go_sem, q0, q1, q2]) rfl
        ⟨ng', A', n', c', E', L', rfl, Rd.store3 HR'.out HN.out HB2.out _ _ _, HN.out, HDd.out.trans HVal.out, ((HBl2.out.setCell (p := ⟨w.heap.size + 1, 0, none⟩) (by simp) _).setCell (p := ⟨w.heap.size + 1, 1, none⟩) (by simp) _).setCell (p := ⟨w.heap.size + 1, 2, none⟩) (by simp) _⟩
end Go.Proofs.Ytelpdbkkefpjhaa
/-
Digits at their places, pure: sums of them, carries and borrows. Conditions: as each says.
-/
set_option linter.unusedVariables false
namespace Go.Proofs.Ytelpdbkkefpjhaa
open Go.RowKit

/-- The digit of a place. -/
def dat (l : List Nat) (E p : Int) : Nat := if p < E ∨ E + l.length ≤ p then 0 else l.getD (p - E).toNat 0
theorem dat_lt {l : List Nat} (h : Digs 65536 l) (E p : Int) : dat l E p < 65536 := by
  unfold dat
  split
  · omega
  · rename_i h1
    have hl : (p - E).toNat < l.length := by omega
    rw [show l.getD (p - E).toNat 0 = l[(p - E).toNat] by simp [List.getD, hl]]
    exact h.get _ hl
theorem dat_nil (E p : Int) : dat [] E p = 0 := by unfold dat; split <;> rfl
/-- The number that the digits of the places from 'fr' on make. -/
def dsum (l : List Nat) (E fr : Int) : Nat → Nat
  | 0 => 0
  | q + 1 => dsum l E fr q + 65536 ^ q * dat l E (fr + q)
theorem dsum_nil (E fr : Int) : ∀ q, dsum [] E fr q = 0
  | 0 => rfl
  | q + 1 => by rw [dsum, dsum_nil E fr q, dat_nil]; simp
theorem dsum_low {l : List Nat} {E fr : Int} {a : Nat} (ha : fr + a = E) : ∀ q, q ≤ a → dsum l E fr q = 0
  | 0, _ => rfl
  | q + 1, h => by
    rw [dsum, dsum_low ha q (by omega)]
    have : dat l E (fr + q) = 0 := by unfold dat; rw [if_pos (.inl (by omega))]
    rw [this]; simp
theorem dsum_mid {l : List Nat} {E fr : Int} {a : Nat} (ha : fr + a = E) : ∀ t, t ≤ l.length → dsum l E fr (a + t) = 65536 ^ a * ofd 65536 (l.take t)
  | 0, _ => by rw [Nat.add_zero, dsum_low ha a (Nat.le_refl _), List.take_zero]; simp [ofd]
  | t + 1, h => by
    rw [show a + (t + 1) = a + t + 1 by omega, dsum, dsum_mid ha t (by omega), ofd_take_succ _ _ _ (by omega)]
    have : dat l E (fr + ((a + t : Nat) : Int)) = l[t]'(by omega) := by
      unfold dat
      rw [if_neg (by omega), show (fr + ((a + t : Nat) : Int) - E).toNat = t by omega]
      simp [List.getD, show t < l.length by omega]
    rw [this, Nat.mul_add, Nat.pow_add, Nat.mul_assoc]
theorem dsum_all {l : List Nat} {E fr : Int} {a : Nat} (ha : fr + a = E) : ∀ t, l.length ≤ t → dsum l E fr (a + t) = 65536 ^ a * ofd 65536 l
  | t, h => by
    induction t with
    | zero =>
      have : l = [] := List.eq_nil_of_length_eq_zero (by omega)
      subst this
      rw [dsum_nil]; simp [ofd]
    | succ t ih =>
      by_cases h1 : l.length = t + 1
      · rw [dsum_mid ha (t + 1) (by omega), List.take_of_length_le (by omega)]
      · rw [show a + (t + 1) = a + t + 1 by omega, dsum, ih (by omega)]
        have : dat l E (fr + ((a + t : Nat) : Int)) = 0 := by unfold dat; rw [if_pos (.inr (by omega))]
        rw [this]; simp
theorem dsum_lt {l : List Nat} (h : Digs 65536 l) (E fr : Int) : ∀ q, dsum l E fr q < 65536 ^ q
  | 0 => by simp [dsum]
  | q + 1 => by
    have h1 := dsum_lt h E fr q
    have h2 := dat_lt h E (fr + q)
    rw [dsum, Nat.pow_succ]
    have : 65536 ^ q * (dat l E (fr + q) + 1) ≤ 65536 ^ q * 65536 := Nat.mul_le_mul_left _ h2
    rw [Nat.mul_add] at this
    omega
theorem pow16 (a : Nat) : 65536 ^ a = 2 ^ (16 * a) := by rw [show 65536 = 2 ^ 16 by decide, ← Nat.pow_mul]
/-- The sign laid on. -/
def sgd (neg : Bool) (m : Nat) : Int := if neg then -(m : Int) else (m : Int)
theorem rdy_sgd (neg : Bool) (l : List Nat) (E : Int) : rdy neg l E = dy (sgd neg (ofd 65536 l)) (16 * E) := by unfold rdy sgd; rfl
theorem rdy_from (neg : Bool) (l : List Nat) {E fr : Int} {a : Nat} (ha : fr + a = E) : rdy neg l E = dy (sgd neg (65536 ^ a * ofd 65536 l)) (16 * fr) := by
  rw [rdy_sgd, ← ha, show 16 * (fr + a) = 16 * fr + ((16 * a : Nat) : Int) by omega, ← dy_pow, pow16]
  congr 1
  unfold sgd
  have e : ((2 ^ (16 * a) : Nat) : Int) = (2 : Int) ^ (16 * a) := by simp
  cases neg
  · simp only [Bool.false_eq_true, if_false]; rw [Int.natCast_mul, e, Int.mul_comm]
  · simp only [if_true]; rw [Int.natCast_mul, e, Int.neg_mul, Int.mul_comm]
/-- From where on, up to where. -/
def endsF (n1 : Nat) (E1 : Int) (n2 : Nat) (E2 : Int) : Int × Int :=
  if n1 = 0 then (E2, E2 + n2) else if n2 = 0 then (E1, E1 + n1) else (min E1 E2, max (E1 + n1) (E2 + n2))
theorem ends_ok {n1 n2 : Nat} {E1 E2 fr tz : Int} (h : endsF n1 E1 n2 E2 = (fr, tz)) : (n1 = 0 ∨ (fr ≤ E1 ∧ E1 + n1 ≤ tz)) ∧ (n2 = 0 ∨ (fr ≤ E2 ∧ E2 + n2 ≤ tz)) ∧ fr ≤ tz := by
  unfold endsF at h
  split at h
  · injection h with h1 h2; omega
  · split at h
    · injection h with h1 h2; omega
    · injection h with h1 h2; omega
/-- All digits counted: the number itself. -/
theorem dsum_val {l : List Nat} {E fr tz : Int} {N : Nat} (h : l.length = 0 ∨ (fr ≤ E ∧ E + l.length ≤ tz)) (hN : fr + N = tz) (neg : Bool) : rdy neg l E = dy (sgd neg (dsum l E fr N)) (16 * fr) := by
  rcases h with h | ⟨h1, h2⟩
  · have : l = [] := List.eq_nil_of_length_eq_zero h
    subst this
    rw [rdy_nil, dsum_nil]
    cases neg <;> rfl
  · obtain ⟨a, ha⟩ : ∃ a : Nat, fr + a = E := ⟨(E - fr).toNat, by omega⟩
    obtain ⟨t, ht⟩ : ∃ t : Nat, a + t = N := ⟨N - a, by omega⟩
    rw [rdy_from neg l ha, ← ht, dsum_all ha t (by omega)]

/-! ### Carries. -/
theorem carry_step {q c x y s1 s2 : Nat} {L : List Nat} (hl : L.length = q) (h : ofd 65536 L + 65536 ^ q * c = s1 + s2) : ofd 65536 (L ++ [(c + x + y) % 65536]) + 65536 ^ (q + 1) * ((c + x + y) / 65536) = s1 + 65536 ^ q * x + (s2 + 65536 ^ q * y) := by
  rw [ofd_snoc, hl, Nat.pow_succ, Nat.mul_assoc]
  have e : (c + x + y) % 65536 + 65536 * ((c + x + y) / 65536) = c + x + y := Nat.mod_add_div _ _
  have : 65536 ^ q * ((c + x + y) % 65536) + 65536 ^ q * (65536 * ((c + x + y) / 65536)) = 65536 ^ q * (c + x + y) := by rw [← Nat.mul_add, e]
  rw [Nat.mul_add, Nat.mul_add] at this
  omega
theorem borrow_none {q b x y s1 s2 : Nat} {L : List Nat} (hl : L.length = q) (h : ofd 65536 L + s2 = s1 + 65536 ^ q * b) (hb : y + b ≤ x) : ofd 65536 (L ++ [x - y - b]) + (s2 + 65536 ^ q * y) = s1 + 65536 ^ q * x + 65536 ^ (q + 1) * 0 := by
  rw [ofd_snoc, hl]
  have : 65536 ^ q * (x - y - b) + 65536 ^ q * y + 65536 ^ q * b = 65536 ^ q * x := by rw [← Nat.mul_add, ← Nat.mul_add]; congr 1; omega
  omega
theorem borrow_one {q b x y s1 s2 : Nat} {L : List Nat} (hl : L.length = q) (h : ofd 65536 L + s2 = s1 + 65536 ^ q * b) (hb : x < y + b) (hy : y + b ≤ x + 65536) : ofd 65536 (L ++ [x + 65536 - y - b]) + (s2 + 65536 ^ q * y) = s1 + 65536 ^ q * x + 65536 ^ (q + 1) * 1 := by
  rw [ofd_snoc, hl, Nat.pow_succ, Nat.mul_one]
  have : 65536 ^ q * (x + 65536 - y - b) + 65536 ^ q * y + 65536 ^ q * b = 65536 ^ q * x + 65536 ^ q * 65536 := by rw [← Nat.mul_add, ← Nat.mul_add, ← Nat.mul_add]; congr 1; omega
  omega
theorem borrow_end {N b s1 s2 : Nat} {L : List Nat} (hl : L.length = N) (hD : Digs 65536 L) (h : ofd 65536 L + s2 = s1 + 65536 ^ N * b) (hs : s2 ≤ s1) : ofd 65536 L = s1 - s2 := by
  have h1 := ofd_lt hD
  rw [hl] at h1
  have hb : b = 0 := by
    cases b with
    | zero => rfl
    | succ b =>
      have : 65536 ^ N * (b + 1) ≥ 65536 ^ N := Nat.le_mul_of_pos_right _ (by omega)
      omega
  subst hb
  omega
/-- The first place from above where they differ tells which is the smaller one. -/
theorem dsum_cmp {l l' : List Nat} (h : Digs 65536 l) (h' : Digs 65536 l') (E E' fr : Int) (k : Nat) (hlt : dat l E (fr + k) < dat l' E' (fr + k)) : ∀ N, k < N → (∀ j, k < j → j < N → dat l E (fr + j) = dat l' E' (fr + j)) → dsum l E fr N < dsum l' E' fr N
  | 0, hk, _ => by omega
  | N + 1, hk, heq => by
    rw [dsum, dsum]
    by_cases e : k = N
    · subst e
      have h1 := dsum_lt h E fr k
      have : 65536 ^ k * (dat l E (fr + k) + 1) ≤ 65536 ^ k * dat l' E' (fr + k) := Nat.mul_le_mul_left _ hlt
      rw [Nat.mul_add] at this
      omega
    · have ih := dsum_cmp h h' E E' fr k hlt N (by omega) (fun j h1 h2 => heq j h1 (by omega))
      rw [heq N (by omega) (by omega)]
      omega
theorem dsum_eq {l l' : List Nat} {E E' fr : Int} : ∀ N, (∀ j : Nat, j < N → dat l E (fr + j) = dat l' E' (fr + j)) → dsum l E fr N = dsum l' E' fr N
  | 0, _ => rfl
  | N + 1, h => by rw [dsum, dsum, dsum_eq N (fun j hj => h j (by omega)), h N (by omega)]
/-! ### Signs. -/
theorem sgd_add (neg : Bool) (a b : Nat) : sgd neg a + sgd neg b = sgd neg (a + b) := by unfold sgd; cases neg <;> simp <;> omega
theorem sgd_sub (neg : Bool) {a b : Nat} (h : b ≤ a) : sgd neg a + sgd (!neg) b = sgd neg (a - b) := by unfold sgd; cases neg <;> simp <;> omega
theorem sgd_zero (neg : Bool) : sgd neg 0 = 0 := by unfold sgd; cases neg <;> rfl
theorem sgd_not (neg : Bool) (a : Nat) : sgd (!neg) a = -sgd neg a := by unfold sgd; cases neg <;> simp
end Go.Proofs.Ytelpdbkkefpjhaa
