/-
Products of digits, laid place by place. Conditions: none.
-/
import Derived.Test.YtlhdcajamempoaaSat
import Derived.Test.YtlhdcajamempoaaSau
set_option linter.unusedVariables false
set_option linter.unusedSimpArgs false
namespace Go.Proofs.Ytlhdcajamempoaa
open Go.RowKit

/-- A place is added to, and what is too much goes to the next one. -/
theorem put_step {M : List Nat} {j cr s x T : Nat} (hj : j < M.length) (hx : M[j] = x) (h : ofd 65536 M + 65536 ^ j * cr = T) :
    ofd 65536 (M.set j ((cr + s + x) % 65536)) + 65536 ^ (j + 1) * ((cr + s + x) / 65536) = T + 65536 ^ j * s := by
  have h1 := ofd_set 65536 M j ((cr + s + x) % 65536) hj
  rw [hx] at h1
  have h2 : (cr + s + x) % 65536 + 65536 * ((cr + s + x) / 65536) = cr + s + x := Nat.mod_add_div _ _
  generalize ofd 65536 (M.set j ((cr + s + x) % 65536)) = O at *
  generalize (cr + s + x) % 65536 = v1 at *
  generalize (cr + s + x) / 65536 = v2 at *
  rw [Nat.pow_succ]
  generalize 65536 ^ j = P at *
  have e1 : P * 65536 * v2 = P * (65536 * v2) := Nat.mul_assoc ..
  have e2 : P * (v1 + 65536 * v2) = P * v1 + P * (65536 * v2) := Nat.mul_add ..
  have e3 : P * (cr + s + x) = P * cr + P * s + P * x := by rw [Nat.mul_add, Nat.mul_add]
  rw [h2] at e2
  generalize P * 65536 * v2 = y1 at *
  generalize P * (65536 * v2) = y2 at *
  generalize P * v1 = y3 at *
  generalize P * (cr + s + x) = y4 at *
  generalize P * cr = y5 at *
  generalize P * s = y6 at *
  generalize P * x = y7 at *
  omega
theorem put_step0 {M : List Nat} {j cr x T V1 V2 : Nat} (hj : j < M.length) (hx : M[j] = x) (h : ofd 65536 M + 65536 ^ j * cr = T) (h1 : (cr + 0 + x) % 65536 = V1) (h2 : (cr + 0 + x) / 65536 = V2) :
    ofd 65536 (M.set j V1) + 65536 ^ (j + 1) * V2 = T := by
  have := put_step (s := 0) hj hx h
  rw [h1, h2] at this
  generalize 65536 ^ j = P at *
  generalize 65536 ^ (j + 1) = P1 at *
  simpa using this
/-- One digit times a number, so far. -/
def mulT (l l' : List Nat) (a k : Nat) : Nat := ofd 65536 (l.take a) * ofd 65536 l' + 65536 ^ a * (l.getD a 0 * ofd 65536 (l'.take k))
theorem mulT_zero (l l' : List Nat) (a : Nat) : mulT l l' a 0 = ofd 65536 (l.take a) * ofd 65536 l' := by simp [mulT, ofd]
theorem mulT_succ {l l' : List Nat} {a k : Nat} (hk : k < l'.length) : mulT l l' a k + 65536 ^ (a + k) * (l.getD a 0 * l'[k]) = mulT l l' a (k + 1) := by
  unfold mulT
  rw [ofd_take_succ _ _ _ hk, Nat.pow_add, Nat.mul_add, Nat.mul_add, Nat.add_assoc]
  congr 2
  rw [Nat.mul_assoc]
  congr 1
  rw [Nat.mul_left_comm]
theorem mulT_all {l l' : List Nat} {a : Nat} (ha : a < l.length) : mulT l l' a l'.length = ofd 65536 (l.take (a + 1)) * ofd 65536 l' := by
  unfold mulT
  rw [ofd_take_all _ _ _ (Nat.le_refl _), ofd_take_succ _ _ _ ha, Nat.add_mul]
  simp [List.getD, ha, Nat.mul_assoc]
theorem mulT_lt {l l' : List Nat} (h : Digs 65536 l) (h' : Digs 65536 l') {a : Nat} (ha : a < l.length) : ofd 65536 (l.take (a + 1)) * ofd 65536 l' < 65536 ^ (a + 1 + l'.length) := by
  have h1 := ofd_lt (h.take (a + 1))
  have h2 := ofd_lt h'
  rw [List.length_take, Nat.min_eq_left (by omega)] at h1
  rw [Nat.pow_add]
  exact Nat.mul_lt_mul'' h1 h2
/-- Where something is left, there is a place. -/
theorem mul_place {M l' : List Nat} {T K cr a : Nat} (h : ofd 65536 M + 65536 ^ K * cr = T) (hT : T < 65536 ^ (a + 1 + l'.length)) (hc : 0 < cr) : K ≤ a + l'.length := by
  rcases Nat.lt_or_ge (a + l'.length) K with hlt | hge
  · exfalso
    have h1 : 65536 ^ (a + 1 + l'.length) ≤ 65536 ^ K := Nat.pow_le_pow_right (by omega) (by omega)
    have h2 : 65536 ^ K * 1 ≤ 65536 ^ K * cr := Nat.mul_le_mul_left _ hc
    omega
  · exact hge
theorem put_facts {cr x y z : Nat} (hc : cr < 65536) (hx : x < 65536) (hy : y < 65536) (hz : z < 65536) : ∃ S U V V1 V2 : Nat, x * y = S ∧ (x : Int) * (y : Int) = (S : Int) ∧ (cr : Int) + (S : Int) = (U : Int) ∧ (U : Int) + (z : Int) = (V : Int) ∧ IntKind.i64.wrap (S : Int) = (S : Int) ∧ IntKind.i64.wrap (U : Int) = (U : Int) ∧ IntKind.i64.wrap (V : Int) = (V : Int) ∧
    (V : Int) % 65536 = (V1 : Int) ∧ (V : Int) / 65536 = (V2 : Int) ∧ (V : Int).tmod 65536 = (V1 : Int) ∧ (V : Int).tdiv 65536 = (V2 : Int) ∧ V2 < 65536 ∧ V1 < 65536 ∧ (cr + S + z) % 65536 = V1 ∧ (cr + S + z) / 65536 = V2 := by
  have hm : x * y ≤ 65535 * 65535 := Nat.mul_le_mul (by omega) (by omega)
  have he : (x : Int) * (y : Int) = ((x * y : Nat) : Int) := by simp
  obtain ⟨S, hS⟩ : ∃ S, x * y = S := ⟨_, rfl⟩
  rw [hS] at hm he
  have w : ∀ n : Nat, n ≤ 9223372036854775807 → IntKind.i64.wrap (n : Int) = (n : Int) := fun n h => IntWalk.i64_in _ (by omega)
  exact ⟨S, cr + S, cr + S + z, (cr + S + z) % 65536, (cr + S + z) / 65536, hS, he, by omega, by omega, w _ (by omega), w _ (by omega), w _ (by omega), by omega, by omega, by rw [Int.tmod_eq_emod_of_nonneg (by omega)]; omega, by rw [Int.tdiv_eq_ediv_of_nonneg (by omega)]; omega, by omega, by omega, rfl, rfl⟩
theorem put_facts0 {cr z : Nat} (hc : cr < 65536) (hz : z < 65536) : ∃ V V1 V2 : Nat, (cr : Int) + (z : Int) = (V : Int) ∧ IntKind.i64.wrap (V : Int) = (V : Int) ∧ wrap64 (V : Int) = (V : Int) ∧ wrap64 (V2 : Int) = (V2 : Int) ∧
    (V : Int) % 65536 = (V1 : Int) ∧ (V : Int) / 65536 = (V2 : Int) ∧ (V : Int).tmod 65536 = (V1 : Int) ∧ (V : Int).tdiv 65536 = (V2 : Int) ∧ V2 < 65536 ∧ V1 < 65536 ∧ (cr + 0 + z) % 65536 = V1 ∧ (cr + 0 + z) / 65536 = V2 := by
  have w : ∀ n : Nat, n ≤ 9223372036854775807 → IntKind.i64.wrap (n : Int) = (n : Int) := fun n h => IntWalk.i64_in _ (by omega)
  have w' : ∀ n : Nat, n ≤ 9223372036854775807 → wrap64 (n : Int) = (n : Int) := fun n h => by unfold wrap64; omega
  exact ⟨cr + z, (cr + z) % 65536, (cr + z) / 65536, by omega, w _ (by omega), w' _ (by omega), w' _ (by omega), by omega, by omega, by rw [Int.tmod_eq_emod_of_nonneg (by omega)]; omega, by rw [Int.tdiv_eq_ediv_of_nonneg (by omega)]; omega, by omega, by omega, rfl, rfl⟩
theorem dy_mulv (p q : Bool) (l l' M : List Nat) (E E' : Int) (h : ofd 65536 M = ofd 65536 l * ofd 65536 l') : rdy (p != q) M (E + E') = rdy p l E * rdy q l' E' := by
  rw [rdy_sgd, rdy_sgd, rdy_sgd, dy_mul, h, sgd_mul]
  congr 1; omega
end Go.Proofs.Ytlhdcajamempoaa
/-
The document's Mul. Conditions: the numbers have at most 2^29 digits, within 2^30 places.
-/
set_option linter.unusedVariables false
set_option linter.unusedSimpArgs false
set_option linter.unnecessarySimpa false
namespace Go.Proofs.Ytlhdcajamempoaa
open Go.RowKit
attribute [local go_sem ↓] Go.wp_at_zero Go.wp_at_succ

theorem bne_decide (a b : Bool) : (a != b) = decide (a ≠ b) := by cases a <;> cases b <;> rfl
set_option maxRecDepth 100000 in
set_option maxHeartbeats 4000000 in
theorem rmul_any (neg : Bool) (A : Option Addr) (n c : Nat) (l : List Nat) (E : Int) (neg' : Bool) (A' : Option Addr) (n' c' : Nat) (l' : List Nat) (E' : Int) (w : World) (h : Rd w A n c l) (h' : Rd w A' n' c' l') (hn : n ≤ 536870912) (hn' : n' ≤ 536870912) (hE : E.natAbs ≤ 1073741824) (hE' : E'.natAbs ≤ 1073741824) :
    Calls Try.prog 37 #[.agg #[.bool neg, .slice A n c, .int .i64 E], .agg #[.bool neg', .slice A' n' c', .int .i64 E']] w (RetR (rdy neg l E * rdy neg' l' E') w) := by
  obtain ⟨mm, hmm⟩ : ∃ mm, n + n' = mm := ⟨_, rfl⟩
  obtain ⟨m, hm⟩ : ∃ m, mm + 1 = m := ⟨_, rfl⟩
  have en : (n : Int) + (n' : Int) = (mm : Int) := by omega
  have en2 : (mm : Int) + 1 = (m : Int) := by omega
  have ew : IntKind.i64.wrap (mm : Int) = (mm : Int) := IntWalk.i64_in _ (by omega)
  have ew2 : wrap64 (m : Int) = (m : Int) := wrap64_in (by omega)
  have hmk := fun V => irun_make m (by omega) V
  have H := Lib.hid h
  have H' := Lib.hid h'
  have HM0 := Lib.hid (show n + n' + 1 = m ∧ m ≤ 1099511627776 by omega)
  have HE := Lib.hid (show IntKind.i64.wrap (E + E') = E + E' ∧ (E + E').natAbs ≤ 1000000000000000000 from ⟨iwrap_in (by omega), by omega⟩)
  have hnl := h.1
  have hnl' := h'.1
  have HNL := Lib.hid (And.intro hnl hnl')
  have HX := Lib.hid ((((Blk.new w 63 #[.bool neg, .slice A n c, .int .i64 E]).alloc (.cells #[.bool neg', .slice A' n' c', .int .i64 E'] 63)).alloc (.cells #[.bool false, .slice none 0 0, .int .i64 0] 63)).alloc (.cells (ints (List.replicate m 0)).toArray 3))
  have HY := Lib.hid (((Blk.new_ (w.alloc (.cells #[.bool neg, .slice A n c, .int .i64 E] 63)) 63 #[.bool neg', .slice A' n' c', .int .i64 E'] (w.heap.size + 1) (by simp)).alloc (.cells #[.bool false, .slice none 0 0, .int .i64 0] 63)).alloc (.cells (ints (List.replicate m 0)).toArray 3))
  have HR := Lib.hid ((Blk.new_ ((w.alloc (.cells #[.bool neg, .slice A n c, .int .i64 E] 63)).alloc (.cells #[.bool neg', .slice A' n' c', .int .i64 E'] 63)) 63 #[.bool false, .slice none 0 0, .int .i64 0] (w.heap.size + 1 + 1) (by simp)).alloc (.cells (ints (List.replicate m 0)).toArray 3))
  have HL := Lib.hid (Blk.new_ (((w.alloc (.cells #[.bool neg, .slice A n c, .int .i64 E] 63)).alloc (.cells #[.bool neg', .slice A' n' c', .int .i64 E'] 63)).alloc (.cells #[.bool false, .slice none 0 0, .int .i64 0] 63)) 3 (ints (List.replicate m 0)).toArray (w.heap.size + 1 + 1 + 1) (by simp))
  have HBl := Lib.hid (((((Below.refl w.heap.size w).alloc (Nat.le_refl _) (.cells #[.bool neg, .slice A n c, .int .i64 E] 63)).alloc (by simp) (.cells #[.bool neg', .slice A' n' c', .int .i64 E'] 63)).alloc (by simp <;> omega) (.cells #[.bool false, .slice none 0 0, .int .i64 0] 63)).alloc (by simp <;> omega) (.cells (ints (List.replicate m 0)).toArray 3))
  clear h h' hn hn' hE hE' hmm hm hnl hnl'
  go_enter Try.func37, Try.ntmps37
  go_wp2_with fail
  go_loopw [6] (fun i wr => ∃ (a : Nat) (M : List Nat), a ≤ n ∧ i = .int .i64 (a : Int) ∧ Hid (M.length = m ∧ Digs 65536 M ∧ ofd 65536 M = ofd 65536 (l.take a) * ofd 65536 l') ∧ Hid (Blk wr (w.heap.size + 1 + 1 + 1) 3 (ints M).toArray ∧ Blk wr w.heap.size 63 #[.bool neg, .slice A n c, .int .i64 E] ∧ Blk wr (w.heap.size + 1) 63 #[.bool neg', .slice A' n' c', .int .i64 E'] ∧ Blk wr (w.heap.size + 1 + 1) 63 #[.bool false, .slice none 0 0, .int .i64 0] ∧ Below w.heap.size w wr)) (fun i _ => n - (intOf i).toNat)
  case atStart => exact ⟨0, List.replicate m 0, Nat.zero_le _, rfl, Lib.hid ⟨by simp, Digs.replicate (by omega) _, by simp [ofd_replicate, ofd]⟩, Lib.hid ⟨HL.out, HX.out, HY.out, HR.out, HBl.out⟩⟩
  case round =>
    obtain ⟨a, M, han, rfl, HM, HS⟩ := hrel
    obtain ⟨wo, rfl⟩ : ∃ wo : World, wo = wr := ⟨_, rfl⟩
    obtain ⟨x0, x1, x2⟩ := cells3 HS.out.2.1
    obtain ⟨y0, y1, y2⟩ := cells3 HS.out.2.2.1
    by_cases hlt : a < n
    · have hlt1 : (a : Int) < (n : Int) := by omega
      have HLT := Lib.hid (And.intro hlt han)
      go_wp2_with fail
      go_loopw [7, 8] (fun cc kk wr => ∃ (k cr : Nat) (M : List Nat), k ≤ n' ∧ cc = .int .i64 (cr : Int) ∧ kk = .int .i64 (k : Int) ∧ Hid (cr < 65536 ∧ M.length = m ∧ Digs 65536 M ∧ ofd 65536 M + 65536 ^ (a + k) * cr = mulT l l' a k) ∧ Hid (Blk wr (w.heap.size + 1 + 1 + 1) 3 (ints M).toArray ∧ Blk wr w.heap.size 63 #[.bool neg, .slice A n c, .int .i64 E] ∧ Blk wr (w.heap.size + 1) 63 #[.bool neg', .slice A' n' c', .int .i64 E'] ∧ Blk wr (w.heap.size + 1 + 1) 63 #[.bool false, .slice none 0 0, .int .i64 0] ∧ Below w.heap.size w wr)) (fun _ k _ => n' - (intOf k).toNat)
      case atStart => exact ⟨0, 0, M, Nat.zero_le _, rfl, rfl, Lib.hid ⟨by omega, HM.out.1, HM.out.2.1, by rw [Nat.mul_zero, mulT_zero]; exact HM.out.2.2⟩, HS⟩
      case round =>
        clear x0 x1 x2 y0 y1 y2 HS HM
        obtain ⟨k, cr, M2, hk, rfl, rfl, HM, HS⟩ := hrel
        obtain ⟨x0, x1, x2⟩ := cells3 HS.out.2.1
        obtain ⟨y0, y1, y2⟩ := cells3 HS.out.2.2.1
        by_cases hlt2 : k < n'
        · have hlt3 : (k : Int) < (n' : Int) := by omega
          have hal : a < l.length := by rw [← HNL.out.1]; exact hlt
          have hkl : k < l'.length := by rw [← HNL.out.2]; exact hlt2
          obtain ⟨K, hK⟩ : ∃ K, a + k = K := ⟨_, rfl⟩
          have eK : (a : Int) + (k : Int) = (K : Int) := by omega
          have eKw : IntKind.i64.wrap (K : Int) = (K : Int) := IntWalk.i64_in _ (by have := HM0.out; omega)
          have HW1 := Lib.hid (show wrap64 ((k : Int) + 1) = (k : Int) + 1 from wrap64_in (by have := HM0.out; omega))
          have hKm : K < m := by have := HM0.out; omega
          have hKm1 : (K : Int) < (m : Int) := by omega
          have hKM : K < M2.length := by rw [HM.out.2.1]; exact hKm
          obtain ⟨b, o, rfl, _, hc0⟩ := H.out.2.2.1.at_ (ints_get l a hal)
          obtain ⟨b', o', rfl, _, hc0'⟩ := H'.out.2.2.1.at_ (ints_get l' k hkl)
          have hc := cell_below hc0 HS.out.2.2.2.2
          have hc' := cell_below hc0' HS.out.2.2.2.2
          have z0 := HS.out.1.cell K
          rw [ints_arr M2 K hKM] at z0
          have z1 := HS.out.1.frozen K
          have hx6 := H.out.2.2.2.1.get a hal
          have hy6 := H'.out.2.2.2.1.get k hkl
          have hz6 := HM.out.2.2.1.get K hKM
          have hstep := mulT_succ (l := l) (a := a) hkl
          rw [show l.getD a 0 = l[a] by simp [List.getD, hal]] at hstep
          obtain ⟨z, hz⟩ : ∃ z, M2[K] = z := ⟨_, rfl⟩
          have h0 : ofd 65536 M2 + 65536 ^ K * cr = mulT l l' a k := by rw [← hK]; exact HM.out.2.2.2
          have hput := fun s => put_step (s := s) hKM hz h0
          rw [hz] at z0 hz6
          generalize l[a] = x at *
          generalize l'[k] = y at *
          obtain ⟨S, U, V, V1, V2, hS, eS, eU, eV, wS, wU, wV, m1, m2, m3, m4, hV2, hV1, hq1, hq2⟩ := put_facts HM.out.1 hx6 hy6 hz6
          have HStep := Lib.hid (show ofd 65536 (M2.set K V1) + 65536 ^ (a + (k + 1)) * V2 = mulT l l' a (k + 1) by
            have := hput S
            rw [hq1, hq2] at this
            rw [← hstep, hK, hS, ← this, show a + (k + 1) = K + 1 by omega])
          have m5 : wrap64 (V2 : Int) = (V2 : Int) := wrap64_in (by omega)
          have HV := Lib.hid (And.intro hV1 hV2)
          have hs1 := HS.out.1.set_ K (.int .i64 (V1 : Int))
          rw [ints_set] at hs1
          have HS1 := Lib.hid hs1
          have HLT2 := Lib.hid (And.intro hlt2 hk)
          clear hs1 hV1 hV2 hq1 hq2 hput hstep hz hx6 hy6 hz6 hc0 hc0' hal hkl hS hKM hK hk han h0
          go_wp2_with fail
          go_region
          go_wp2_with fail
          go_roundw
          case rel => exact ⟨k + 1, V2, M2.set K V1, by have := HLT2.out.1; omega, by rw [m5], by rw [HW1.out]; rfl, Lib.hid ⟨HV.out.2, by rw [List.length_set]; exact HM.out.2.1, HM.out.2.2.1.set K HV.out.1, HStep.out⟩, Lib.hid ⟨HS1.out.drew, (HS.out.2.1.other (by simp <;> omega) _).drew, (HS.out.2.2.1.other (by simp <;> omega) _).drew, (HS.out.2.2.2.1.other (by simp) _).drew, (HS.out.2.2.2.2.setCell (by simp <;> omega) _).drew⟩⟩
          case measure => have := HLT2.out.1; rw [HW1.out]; simp [intOf]; omega
        · obtain rfl : n' = k := by omega
          have hlt3 : ¬ (n' : Int) < (n' : Int) := by omega
          obtain ⟨K0, hK0⟩ : ∃ K0, a + n' = K0 := ⟨_, rfl⟩
          have eK : (a : Int) + (n' : Int) = (K0 : Int) := by omega
          have eKw : IntKind.i64.wrap (K0 : Int) = (K0 : Int) := IntWalk.i64_in _ (by have := HM0.out; omega)
          have eKw2 : wrap64 (K0 : Int) = (K0 : Int) := wrap64_in (by have := HM0.out; omega)
          have hal : a < l.length := by rw [← HNL.out.1]; exact hlt
          have HT := Lib.hid (show ofd 65536 M2 + 65536 ^ K0 * cr = ofd 65536 (l.take (a + 1)) * ofd 65536 l' by rw [← mulT_all hal, ← HNL.out.2, ← hK0]; exact HM.out.2.2.2)
          have HT2 := Lib.hid (show ofd 65536 (l.take (a + 1)) * ofd 65536 l' < 65536 ^ (a + 1 + l'.length) from mulT_lt H.out.2.2.2.1 H'.out.2.2.2.1 hal)
          have HK0 := Lib.hid hK0
          clear hK0 hal
          go_wp2_with fail
          obtain ⟨wp, rfl⟩ : ∃ wp : World, wp = wr := ⟨_, rfl⟩
          go_loopw [7, 9] (fun cc kk wr => ∃ (K cr : Nat) (M : List Nat), K0 ≤ K ∧ K ≤ K0 + 1 ∧ cc = .int .i64 (cr : Int) ∧ kk = .int .i64 (K : Int) ∧ Hid (cr < 65536 ∧ M.length = m ∧ Digs 65536 M ∧ ofd 65536 M + 65536 ^ K * cr = ofd 65536 (l.take (a + 1)) * ofd 65536 l') ∧ Hid (Blk wr (w.heap.size + 1 + 1 + 1) 3 (ints M).toArray ∧ Blk wr w.heap.size 63 #[.bool neg, .slice A n c, .int .i64 E] ∧ Blk wr (w.heap.size + 1) 63 #[.bool neg', .slice A' n' c', .int .i64 E'] ∧ Blk wr (w.heap.size + 1 + 1) 63 #[.bool false, .slice none 0 0, .int .i64 0] ∧ Below w.heap.size w wr)) (fun _ k _ => K0 + 1 - (intOf k).toNat)
          case atStart => exact ⟨K0, cr, M2, Nat.le_refl _, by omega, rfl, rfl, Lib.hid ⟨HM.out.1, HM.out.2.1, HM.out.2.2.1, HT.out⟩, HS⟩
          case round =>
            clear x0 x1 x2 y0 y1 y2 HS HM HT
            obtain ⟨K, cr, M3, hKa, hKb, rfl, rfl, HM, HS⟩ := hrel
            obtain ⟨x0, x1, x2⟩ := cells3 HS.out.2.1
            obtain ⟨y0, y1, y2⟩ := cells3 HS.out.2.2.1
            by_cases hc0 : cr = 0
            · subst hc0
              have hz0 : ¬ (0 : Int) < ((0 : Nat) : Int) := by omega
              have HW0 := Lib.hid (show wrap64 ((a : Int) + 1) = (a : Int) + 1 from wrap64_in (by have := HM0.out; omega))
              have HD := Lib.hid (show ofd 65536 M3 = ofd 65536 (l.take (a + 1)) * ofd 65536 l' by have := HM.out.2.2.2; rw [Nat.mul_zero] at this; exact this)
              go_wp2_with fail
              go_roundw
              case rel => exact ⟨a + 1, by have := HLT.out.1; omega, by rw [HW0.out]; rfl, M3, Lib.hid ⟨HM.out.2.1, HM.out.2.2.1, HD.out⟩, HS⟩
              case measure => have := HLT.out.1; rw [HW0.out]; simp [intOf]; omega
            · have hz0 : 0 < cr := by omega
              have hz1 : (0 : Int) < (cr : Int) := by omega
              have hpl := mul_place HM.out.2.2.2 HT2.out (by omega)
              rw [← HNL.out.2, HK0.out] at hpl
              have hKm : K < m := by have := HM0.out; have := HK0.out; omega
              have hKm1 : (K : Int) < (m : Int) := by omega
              have hKM : K < M3.length := by rw [HM.out.2.1]; exact hKm
              have z0 := HS.out.1.cell K
              rw [ints_arr M3 K hKM] at z0
              have z1 := HS.out.1.frozen K
              have hz6 := HM.out.2.2.1.get K hKM
              obtain ⟨z, hz⟩ : ∃ z, M3[K] = z := ⟨_, rfl⟩
              rw [hz] at z0 hz6
              obtain ⟨V, V1, V2, eV, wV, wV2, m5, m1, m2, m3, m4, hV2, hV1, hq1, hq2⟩ := put_facts0 HM.out.1 hz6
              have HW3 := Lib.hid (show wrap64 ((K : Int) + 1) = (K : Int) + 1 from wrap64_in (by have := HM0.out; omega))
              have HStep := Lib.hid (put_step0 hKM hz HM.out.2.2.2 hq1 hq2)
              have HV := Lib.hid (And.intro hV1 hV2)
              have hs1 := HS.out.1.set_ K (.int .i64 (V1 : Int))
              rw [ints_set] at hs1
              have HS1 := Lib.hid hs1
              have HPL := Lib.hid (And.intro hpl hKa)
              clear hs1 hV1 hV2 hq1 hq2 hz hz6 hKM hKa hKb hpl hc0
              go_wp2_with fail
              go_roundw
              case rel => exact ⟨K + 1, V2, M3.set K V1, by have := HPL.out; omega, by have := HPL.out; omega, by rw [m5], by rw [HW3.out]; rfl, Lib.hid ⟨HV.out.2, by rw [List.length_set]; exact HM.out.2.1, HM.out.2.2.1.set K HV.out.1, HStep.out⟩, Lib.hid ⟨HS1.out, HS.out.2.1.other (by simp <;> omega) _, HS.out.2.2.1.other (by simp <;> omega) _, HS.out.2.2.2.1.other (by simp) _, HS.out.2.2.2.2.setCell (by simp <;> omega) _⟩⟩
              case measure => have := HPL.out; rw [HW3.out]; simp [intOf]; omega
    · obtain rfl : a = n := by omega
      have hlt1 : ¬ (a : Int) < (a : Int) := by omega
      have hwE := HE.out.1
      have hlm : m = M.length := HM.out.1.symm
      have HRm := Lib.hid (show Rd wo (some ⟨w.heap.size + 1 + 1 + 1, 0, none⟩) m m M from ⟨hlm, Nat.le_refl _, .inr ⟨w.heap.size + 1 + 1 + 1, 0, rfl, fun i v hi => by
        rw [Nat.zero_add, HS.out.1.cell i, List.getElem?_toArray]; exact hi⟩, HM.out.2.1, fun b y e _ => by
        injection e with e; injection e with e1 e2
        subst e1
        exact IntB.of_blk HS.out.1⟩)
      have HVal := Lib.hid (show rdy (neg != neg') M (E + E') = rdy neg l E * rdy neg' l' E' from dy_mulv neg neg' l l' M E E' (by have := HM.out.2.2; rw [HNL.out.1, ofd_take_all _ _ _ (Nat.le_refl _)] at this; exact this))
      have HBd := Lib.hid (And.intro HM0.out.2 HE.out.2)
      have HR1 := Lib.hid HS.out.2.2.2.1
      have HB1 := Lib.hid HS.out.2.2.2.2
      clear hlm HS
      go_wp2_with fail
      refine (made_any (!(neg == neg')) _ m m M (E + E') wo HRm.out HBd.out.1 HBd.out.2 (by have := HBd.out.1; omega)).mono ?_
      rintro e w4 ⟨ng4, A4, n4, c4, E4, L4, rfl, hR4, hN4, hd4, hb⟩
      have HR4 := Lib.hid (HR1.out.next hb)
      have f0 := HR4.out.frozen 0
      have f1 := HR4.out.frozen 1
      have f2 := HR4.out.frozen 2
      obtain ⟨r0, r1, r2⟩ := cells3 HR4.out
      have HB4 := Lib.hid (below_nx HB1.out hb)
      have HRd4 := Lib.hid hR4
      have HN4 := Lib.hid hN4
      have HD4 := Lib.hid (show rdy ng4 L4 E4 = rdy neg l E * rdy neg' l' E' from hd4.trans HVal.out)
      clear hb hR4 hN4 hd4 x0 x1 x2 y0 y1 y2
      go_wp2_with fail
      obtain ⟨q0, q1, q2⟩ := cells3 (Blk.store3 HR4.out (.bool ng4) (.slice A4 n4 c4) (.int .i64 E4))
      exact bodyPost_ret (v := .agg #[.bool ng4, .slice A4 n4 c4, .int .i64 E4]) (by simp [results, Try.results37, go_sem, q0, q1, q2]) rfl (retR_done HR4.out HRd4.out HN4.out HD4.out HB4.out (by omega))
end Go.Proofs.Ytlhdcajamempoaa
