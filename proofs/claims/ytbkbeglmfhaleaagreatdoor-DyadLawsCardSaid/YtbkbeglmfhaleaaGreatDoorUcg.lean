/-
Products of digits, laid place by place. Conditions: none.
-/
import Derived.Test.YtbkbeglmfhaleaaGreatDoorRdG
import Derived.Test.YtbkbeglmfhaleaaGreatDoorUcc
import Derived.Test.YtbkbeglmfhaleaaGreatDoorZRdF
import Derived.Test.YtbkbeglmfhaleaaGreatDoorUce
import Derived.Test.YtbkbeglmfhaleaaGreatDoorUcb
import Derived.Test.YtbkbeglmfhaleaaGreatDoorNumA
import Derived.Test.YtbkbeglmfhaleaaGreatDoorFdy
import Derived.Test.YtbkbeglmfhaleaaGreatDoorUcq
import Derived.Test.YtbkbeglmfhaleaaGreatDoorUcf
import Derived.Test.YtbkbeglmfhaleaaGreatDoorZRdW
import Derived.Test.YtbkbeglmfhaleaaGreatDoorDy
import Derived.Test.YtbkbeglmfhaleaaGreatDoorW3
import Derived.Test.YtbkbeglmfhaleaaGreatDoorCan
import Derived.Test.YtbkbeglmfhaleaaGreatDoorSum
import Derived.Test.YtbkbeglmfhaleaaGreatDoorMem
import Derived.Sort.Grow
import Derived.Test.YtbkbeglmfhaleaaGreatDoorShelf
import Derived.IntWalk
import Derived.Test.YtbkbeglmfhaleaaGreatDoorW5
import Derived.Shelf.SlicesQ.IndexFunc
import Derived.Test.YtbkbeglmfhaleaaGreatDoorAdd
import Derived.Test.YtbkbeglmfhaleaaGreatDoorInv
import Derived.Test.YtbkbeglmfhaleaaGreatDoorIng
import Derived.Shelf.SlSortCmp.SmallK
import Derived.Shelf.Small.Bits
import Derived.Shelf.SlicesE.Clone
import Derived.Ground.SlgfProg
import Derived.Ground.SlsfProg
import Derived.Ground.SlgnProg
import Derived.Ground.NamesProg
import Derived.Test.YtbkbeglmfhaleaaGreatDoorProg
set_option linter.unusedVariables false
set_option linter.unusedSimpArgs false
namespace Go.Proofs.YtbkbeglmfhaleaaGreatDoor
open Go.RowKit

/-- A place is added to, and what is too much goes to the next one. -/
theorem put_step {M : List Nat} {j cr s x T : Nat} (hj : j < M.length) (hx : M[j] = x) (h : ofd 65536 M + 65536 ^ j * cr = T) :
    ofd 65536 (M.set j ((cr + s + x) % 65536)) + 65536 ^ (j + 1) * ((cr + s + x) / 65536) = T + 65536 ^ j * s := by
  have h1 := ofd_set 65536 M j ((cr + s + x) % 65536) hj
  rw [hx] at h1
  have h2 : (cr + s + x) % 65536 + 65536 * ((cr + s + x) / 65536) = cr + s + x := Nat.mod_add_div _ _
  generalize ofd 65536 (M.set j ((cr + s + x) % 65536)) = O at *
  generalize (cr + s + x) % 65536 = v1 at *
  generalize (cr + s + x) / 65536 = v2 at *
  rw [Nat.pow_succ]
  generalize 65536 ^ j = P at *
  have e1 : P * 65536 * v2 = P * (65536 * v2) := Nat.mul_assoc ..
  have e2 : P * (v1 + 65536 * v2) = P * v1 + P * (65536 * v2) := Nat.mul_add ..
  have e3 : P * (cr + s + x) = P * cr + P * s + P * x := by rw [Nat.mul_add, Nat.mul_add]
  rw [h2] at e2
  generalize P * 65536 * v2 = y1 at *
  generalize P * (65536 * v2) = y2 at *
  generalize P * v1 = y3 at *
  generalize P * (cr + s + x) = y4 at *
  generalize P * cr = y5 at *
  generalize P * s = y6 at *
  generalize P * x = y7 at *
  omega
theorem put_step0 {M : List Nat} {j cr x T V1 V2 : Nat} (hj : j < M.length) (hx : M[j] = x) (h : ofd 65536 M + 65536 ^ j * cr = T) (h1 : (cr + 0 + x) % 65536 = V1) (h2 : (cr + 0 + x) / 65536 = V2) :
    ofd 65536 (M.set j V1) + 65536 ^ (j + 1) * V2 = T := by
  have := put_step (s := 0) hj hx h
  rw [h1, h2] at this
  generalize 65536 ^ j = P at *
  generalize 65536 ^ (j + 1) = P1 at *
  simpa using this
/-- One digit times a number, so far. -/
def mulT (l l' : List Nat) (a k : Nat) : Nat := ofd 65536 (l.take a) * ofd 65536 l' + 65536 ^ a * (l.getD a 0 * ofd 65536 (l'.take k))
theorem mulT_zero (l l' : List Nat) (a : Nat) : mulT l l' a 0 = ofd 65536 (l.take a) * ofd 65536 l' := by simp [mulT, ofd]
theorem mulT_succ {l l' : List Nat} {a k : Nat} (hk : k < l'.length) : mulT l l' a k + 65536 ^ (a + k) * (l.getD a 0 * l'[k]) = mulT l l' a (k + 1) := by
  unfold mulT
  rw [ofd_take_succ _ _ _ hk, Nat.pow_add, Nat.mul_add, Nat.mul_add, Nat.add_assoc]
  congr 2
  rw [Nat.mul_assoc]
  congr 1
  rw [Nat.mul_left_comm]
theorem mulT_all {l l' : List Nat} {a : Nat} (ha : a < l.length) : mulT l l' a l'.length = ofd 65536 (l.take (a + 1)) * ofd 65536 l' := by
  unfold mulT
  rw [ofd_take_all _ _ _ (Nat.le_refl _), ofd_take_succ _ _ _ ha, Nat.add_mul]
  simp [List.getD, ha, Nat.mul_assoc]
theorem mulT_lt {l l' : List Nat} (h : Digs 65536 l) (h' : Digs 65536 l') {a : Nat} (ha : a < l.length) : ofd 65536 (l.take (a + 1)) * ofd 65536 l' < 65536 ^ (a + 1 + l'.length) := by
  have h1 := ofd_lt (h.take (a + 1))
  have h2 := ofd_lt h'
  rw [List.length_take, Nat.min_eq_left (by omega)] at h1
  rw [Nat.pow_add]
  exact Nat.mul_lt_mul'' h1 h2
/-- Where something is left, there is a place. -/
theorem mul_place {M l' : List Nat} {T K cr a : Nat} (h : ofd 65536 M + 65536 ^ K * cr = T) (hT : T < 65536 ^ (a + 1 + l'.length)) (hc : 0 < cr) : K ≤ a + l'.length := by
  rcases Nat.lt_or_ge (a + l'.length) K with hlt | hge
  · exfalso
    have h1 : 65536 ^ (a + 1 + l'.length) ≤ 65536 ^ K := Nat.pow_le_pow_right (by omega) (by omega)
    have h2 : 65536 ^ K * 1 ≤ 65536 ^ K * cr := Nat.mul_le_mul_left _ hc
    omega
  · exact hge
theorem put_facts {cr x y z : Nat} (hc : cr < 65536) (hx : x < 65536) (hy : y < 65536) (hz : z < 65536) : ∃ S U V V1 V2 : Nat, x * y = S ∧ (x : Int) * (y : Int) = (S : Int) ∧ (cr : Int) + (S : Int) = (U : Int) ∧ (U : Int) + (z : Int) = (V : Int) ∧ IntKind.i64.wrap (S : Int) = (S : Int) ∧ IntKind.i64.wrap (U : Int) = (U : Int) ∧ IntKind.i64.wrap (V : Int) = (V : Int) ∧
    (V : Int) % 65536 = (V1 : Int) ∧ (V : Int) / 65536 = (V2 : Int) ∧ (V : Int).tmod 65536 = (V1 : Int) ∧ (V : Int).tdiv 65536 = (V2 : Int) ∧ V2 < 65536 ∧ V1 < 65536 ∧ (cr + S + z) % 65536 = V1 ∧ (cr + S + z) / 65536 = V2 := by
  have hm : x * y ≤ 65535 * 65535 := Nat.mul_le_mul (by omega) (by omega)
  have he : (x : Int) * (y : Int) = ((x * y : Nat) : Int) := by simp
  obtain ⟨S, hS⟩ : ∃ S, x * y = S := ⟨_, rfl⟩
  rw [hS] at hm he
  have w : ∀ n : Nat, n ≤ 9223372036854775807 → IntKind.i64.wrap (n : Int) = (n : Int) := fun n h => IntWalk.i64_in _ (by omega)
  exact ⟨S, cr + S, cr + S + z, (cr + S + z) % 65536, (cr + S + z) / 65536, hS, he, by omega, by omega, w _ (by omega), w _ (by omega), w _ (by omega), by omega, by omega, by rw [Int.tmod_eq_emod_of_nonneg (by omega)]; omega, by rw [Int.tdiv_eq_ediv_of_nonneg (by omega)]; omega, by omega, by omega, rfl, rfl⟩
theorem put_facts0 {cr z : Nat} (hc : cr < 65536) (hz : z < 65536) : ∃ V V1 V2 : Nat, (cr : Int) + (z : Int) = (V : Int) ∧ IntKind.i64.wrap (V : Int) = (V : Int) ∧ wrap64 (V : Int) = (V : Int) ∧ wrap64 (V2 : Int) = (V2 : Int) ∧
    (V : Int) % 65536 = (V1 : Int) ∧ (V : Int) / 65536 = (V2 : Int) ∧ (V : Int).tmod 65536 = (V1 : Int) ∧ (V : Int).tdiv 65536 = (V2 : Int) ∧ V2 < 65536 ∧ V1 < 65536 ∧ (cr + 0 + z) % 65536 = V1 ∧ (cr + 0 + z) / 65536 = V2 := by
  have w : ∀ n : Nat, n ≤ 9223372036854775807 → IntKind.i64.wrap (n : Int) = (n : Int) := fun n h => IntWalk.i64_in _ (by omega)
  have w' : ∀ n : Nat, n ≤ 9223372036854775807 → wrap64 (n : Int) = (n : Int) := fun n h => by unfold wrap64; omega
  exact ⟨cr + z, (cr + z) % 65536, (cr + z) / 65536, by omega, w _ (by omega), w' _ (by omega), w' _ (by omega), by omega, by omega, by rw [Int.tmod_eq_emod_of_nonneg (by omega)]; omega, by rw [Int.tdiv_eq_ediv_of_nonneg (by omega)]; omega, by omega, by omega, rfl, rfl⟩
theorem dy_mulv (p q : Bool) (l l' M : List Nat) (E E' : Int) (h : ofd 65536 M = ofd 65536 l * ofd 65536 l') : rdy (p != q) M (E + E') = rdy p l E * rdy q l' E' := by
  rw [rdy_sgd, rdy_sgd, rdy_sgd, dy_mul, h, sgd_mul]
  congr 1; omega
end Go.Proofs.YtbkbeglmfhaleaaGreatDoor
/-
The document's Mul. Conditions: the numbers have at most 2^29 digits, within 2^30 places.
-/
set_option linter.unusedVariables false
set_option linter.unusedSimpArgs false
set_option linter.unnecessarySimpa false
namespace Go.Proofs.YtbkbeglmfhaleaaGreatDoor
open Go.RowKit
attribute [local go_sem ↓] Go.wp_at_zero Go.wp_at_succ

theorem bne_decide (a b : Bool) : (a != b) = decide (a ≠ b) := by cases a <;> cases b <;> rfl
set_option maxRecDepth 100000 in
set_option maxHeartbeats 4000000 in
theorem rmul_any (neg : Bool) (A : Option Addr) (n c : Nat) (l : List Nat) (E : Int) (neg' : Bool) (A' : Option Addr) (n' c' : Nat) (l' : List Nat) (E' : Int) (w : World) (h : Rd w A n c l) (h' : Rd w A' n' c' l') (hn : n ≤ 536870912) (hn' : n' ≤ 536870912) (hE : E.natAbs ≤ 1073741824) (hE' : E'.natAbs ≤ 1073741824) :
    Calls Tryz.prog 10 #[.agg #[.bool neg, .slice A n c, .int .i64 E], .agg #[.bool neg', .slice A' n' c', .int .i64 E']] w (RetR (rdy neg l E * rdy neg' l' E') w) := by
  obtain ⟨mm, hmm⟩ : ∃ mm, n + n' = mm := ⟨_, rfl⟩
  obtain ⟨m, hm⟩ : ∃ m, mm + 1 = m := ⟨_, rfl⟩
  have en : (n : Int) + (n' : Int) = (mm : Int) := by omega
  have en2 : (mm : Int) + 1 = (m : Int) := by omega
  have ew : IntKind.i64.wrap (mm : Int) = (mm : Int) := IntWalk.i64_in _ (by omega)
  have ew2 : wrap64 (m : Int) = (m : Int) := wrap64_in (by omega)
  have hmk := fun V => irun_make m (by omega) V
  have H := Lib.hid h
  have H' := Lib.hid h'
  have HM0 := Lib.hid (show n + n' + 1 = m ∧ m ≤ 1099511627776 by omega)
  have HE := Lib.hid (show IntKind.i64.wrap (E + E') = E + E' ∧ (E + E').natAbs ≤ 1000000000000000000 from ⟨iwrap_in (by omega), by omega⟩)
  have hnl := h.1
  have hnl' := h'.1
  have HNL := Lib.hid (And.intro hnl hnl')
  have HX := Lib.hid ((((Blk.new w 30 #[.bool neg, .slice A n c, .int .i64 E]).alloc (.cells #[.bool neg', .slice A' n' c', .int .i64 E'] 30)).alloc (.cells #[.bool false, .slice none 0 0, .int .i64 0] 30)).alloc (.cells (ints (List.replicate m 0)).toArray 3))
  have HY := Lib.hid (((Blk.new_ (w.alloc (.cells #[.bool neg, .slice A n c, .int .i64 E] 30)) 30 #[.bool neg', .slice A' n' c', .int .i64 E'] (w.heap.size + 1) (by simp)).alloc (.cells #[.bool false, .slice none 0 0, .int .i64 0] 30)).alloc (.cells (ints (List.replicate m 0)).toArray 3))
  have HR := Lib.hid ((Blk.new_ ((w.alloc (.cells #[.bool neg, .slice A n c, .int .i64 E] 30)).alloc (.cells #[.bool neg', .slice A' n' c', .int .i64 E'] 30)) 30 #[.bool false, .slice none 0 0, .int .i64 0] (w.heap.size + 1 + 1) (by simp)).alloc (.cells (ints (List.replicate m 0)).toArray 3))
  have HL := Lib.hid (Blk.new_ (((w.alloc (.cells #[.bool neg, .slice A n c, .int .i64 E] 30)).alloc (.cells #[.bool neg', .slice A' n' c', .int .i64 E'] 30)).alloc (.cells #[.bool false, .slice none 0 0, .int .i64 0] 30)) 3 (ints (List.replicate m 0)).toArray (w.heap.size + 1 + 1 + 1) (by simp))
  have HBl := Lib.hid (((((Below.refl w.heap.size w).alloc (Nat.le_refl _) (.cells #[.bool neg, .slice A n c, .int .i64 E] 30)).alloc (by simp) (.cells #[.bool neg', .slice A' n' c', .int .i64 E'] 30)).alloc (by simp <;> omega) (.cells #[.bool false, .slice none 0 0, .int .i64 0] 30)).alloc (by simp <;> omega) (.cells (ints (List.replicate m 0)).toArray 3))
  clear h h' hn hn' hE hE' hmm hm hnl hnl'
  go_enter Tryz.func10, Tryz.ntmps10
  go_wp2_with fail
  go_loopw [6] (fun i wr => ∃ (a : Nat) (M : List Nat), a ≤ n ∧ i = .int .i64 (a : Int) ∧ Hid (M.length = m ∧ Digs 65536 M ∧ ofd 65536 M = ofd 65536 (l.take a) * ofd 65536 l') ∧ Hid (Blk wr (w.heap.size + 1 + 1 + 1) 3 (ints M).toArray ∧ Blk wr w.heap.size 30 #[.bool neg, .slice A n c, .int .i64 E] ∧ Blk wr (w.heap.size + 1) 30 #[.bool neg', .slice A' n' c', .int .i64 E'] ∧ Blk wr (w.heap.size + 1 + 1) 30 #[.bool false, .slice none 0 0, .int .i64 0] ∧ Below w.heap.size w wr)) (fun i _ => n - (intOf i).toNat)
  case atStart => exact ⟨0, List.replicate m 0, Nat.zero_le _, rfl, Lib.hid ⟨by simp, Digs.replicate (by omega) _, by simp [ofd_replicate, ofd]⟩, Lib.hid ⟨HL.out, HX.out, HY.out, HR.out, HBl.out⟩⟩
  case round =>
    obtain ⟨a, M, han, rfl, HM, HS⟩ := hrel
    obtain ⟨wo, rfl⟩ : ∃ wo : World, wo = wr := ⟨_, rfl⟩
    obtain ⟨x0, x1, x2⟩ := cells3 HS.out.2.1
    obtain ⟨y0, y1, y2⟩ := cells3 HS.out.2.2.1
    by_cases hlt : a < n
    · have hlt1 : (a : Int) < (n : Int) := by omega
      have HLT := Lib.hid (And.intro hlt han)
      go_wp2_with fail
      go_loopw [7, 8] (fun cc kk wr => ∃ (k cr : Nat) (M : List Nat), k ≤ n' ∧ cc = .int .i64 (cr : Int) ∧ kk = .int .i64 (k : Int) ∧ Hid (cr < 65536 ∧ M.length = m ∧ Digs 65536 M ∧ ofd 65536 M + 65536 ^ (a + k) * cr = mulT l l' a k) ∧ Hid (Blk wr (w.heap.size + 1 + 1 + 1) 3 (ints M).toArray ∧ Blk wr w.heap.size 30 #[.bool neg, .slice A n c, .int .i64 E] ∧ Blk wr (w.heap.size + 1) 30 #[.bool neg', .slice A' n' c', .int .i64 E'] ∧ Blk wr (w.heap.size + 1 + 1) 30 #[.bool false, .slice none 0 0, .int .i64 0] ∧ Below w.heap.size w wr)) (fun _ k _ => n' - (intOf k).toNat)
      case atStart => exact ⟨0, 0, M, Nat.zero_le _, rfl, rfl, Lib.hid ⟨by omega, HM.out.1, HM.out.2.1, by rw [Nat.mul_zero, mulT_zero]; exact HM.out.2.2⟩, HS⟩
      case round =>
        clear x0 x1 x2 y0 y1 y2 HS HM
        obtain ⟨k, cr, M2, hk, rfl, rfl, HM, HS⟩ := hrel
        obtain ⟨x0, x1, x2⟩ := cells3 HS.out.2.1
        obtain ⟨y0, y1, y2⟩ := cells3 HS.out.2.2.1
        by_cases hlt2 : k < n'
        · have hlt3 : (k : Int) < (n' : Int) := by omega
          have hal : a < l.length := by rw [← HNL.out.1]; exact hlt
          have hkl : k < l'.length := by rw [← HNL.out.2]; exact hlt2
          obtain ⟨K, hK⟩ : ∃ K, a + k = K := ⟨_, rfl⟩
          have eK : (a : Int) + (k : Int) = (K : Int) := by omega
          have eKw : IntKind.i64.wrap (K : Int) = (K : Int) := IntWalk.i64_in _ (by have := HM0.out; omega)
          have HW1 := Lib.hid (show wrap64 ((k : Int) + 1) = (k : Int) + 1 from wrap64_in (by have := HM0.out; omega))
          have hKm : K < m := by have := HM0.out; omega
          have hKm1 : (K : Int) < (m : Int) := by omega
          have hKM : K < M2.length := by rw [HM.out.2.1]; exact hKm
          obtain ⟨b, o, rfl, _, hc0⟩ := H.out.2.2.1.at_ (ints_get l a hal)
          obtain ⟨b', o', rfl, _, hc0'⟩ := H'.out.2.2.1.at_ (ints_get l' k hkl)
          have hc := cell_below hc0 HS.out.2.2.2.2
          have hc' := cell_below hc0' HS.out.2.2.2.2
          have z0 := HS.out.1.cell K
          rw [ints_arr M2 K hKM] at z0
          have z1 := HS.out.1.frozen K
          have hx6 := H.out.2.2.2.1.get a hal
          have hy6 := H'.out.2.2.2.1.get k hkl
          have hz6 := HM.out.2.2.1.get K hKM
          have hstep := mulT_succ (l := l) (a := a) hkl
          rw [show l.getD a 0 = l[a] by simp [List.getD, hal]] at hstep
          obtain ⟨z, hz⟩ : ∃ z, M2[K] = z := ⟨_, rfl⟩
          have h0 : ofd 65536 M2 + 65536 ^ K * cr = mulT l l' a k := by rw [← hK]; exact HM.out.2.2.2
          have hput := fun s => put_step (s := s) hKM hz h0
          rw [hz] at z0 hz6
          generalize l[a] = x at *
          generalize l'[k] = y at *
          obtain ⟨S, U, V, V1, V2, hS, eS, eU, eV, wS, wU, wV, m1, m2, m3, m4, hV2, hV1, hq1, hq2⟩ := put_facts HM.out.1 hx6 hy6 hz6
          have HStep := Lib.hid (show ofd 65536 (M2.set K V1) + 65536 ^ (a + (k + 1)) * V2 = mulT l l' a (k + 1) by
            have := hput S
            rw [hq1, hq2] at this
            rw [← hstep, hK, hS, ← this, show a + (k + 1) = K + 1 by omega])
          have m5 : wrap64 (V2 : Int) = (V2 : Int) := wrap64_in (by omega)
          have HV := Lib.hid (And.intro hV1 hV2)
          have hs1 := HS.out.1.set_ K (.int .i64 (V1 : Int))
          rw [ints_set] at hs1
          have HS1 := Lib.hid hs1
          have HLT2 := Lib.hid (And.intro hlt2 hk)
          clear hs1 hV1 hV2 hq1 hq2 hput hstep hz hx6 hy6 hz6 hc0 hc0' hal hkl hS hKM hK hk han h0
          go_wp2_with fail
          go_region
          go_wp2_with fail
          go_roundw
          case rel => exact ⟨k + 1, V2, M2.set K V1, by have := HLT2.out.1; omega, by rw [m5], by rw [HW1.out]; rfl, Lib.hid ⟨HV.out.2, by rw [List.length_set]; exact HM.out.2.1, HM.out.2.2.1.set K HV.out.1, HStep.out⟩, Lib.hid ⟨HS1.out.drew, (HS.out.2.1.other (by simp <;> omega) _).drew, (HS.out.2.2.1.other (by simp <;> omega) _).drew, (HS.out.2.2.2.1.other (by simp) _).drew, (HS.out.2.2.2.2.setCell (by simp <;> omega) _).drew⟩⟩
          case measure => have := HLT2.out.1; rw [HW1.out]; simp [intOf]; omega
        · obtain rfl : n' = k := by omega
          have hlt3 : ¬ (n' : Int) < (n' : Int) := by omega
          obtain ⟨K0, hK0⟩ : ∃ K0, a + n' = K0 := ⟨_, rfl⟩
          have eK : (a : Int) + (n' : Int) = (K0 : Int) := by omega
          have eKw : IntKind.i64.wrap (K0 : Int) = (K0 : Int) := IntWalk.i64_in _ (by have := HM0.out; omega)
          have eKw2 : wrap64 (K0 : Int) = (K0 : Int) := wrap64_in (by have := HM0.out; omega)
          have hal : a < l.length := by rw [← HNL.out.1]; exact hlt
          have HT := Lib.hid (show ofd 65536 M2 + 65536 ^ K0 * cr = ofd 65536 (l.take (a + 1)) * ofd 65536 l' by rw [← mulT_all hal, ← HNL.out.2, ← hK0]; exact HM.out.2.2.2)
          have HT2 := Lib.hid (show ofd 65536 (l.take (a + 1)) * ofd 65536 l' < 65536 ^ (a + 1 + l'.length) from mulT_lt H.out.2.2.2.1 H'.out.2.2.2.1 hal)
          have HK0 := Lib.hid hK0
          clear hK0 hal
          go_wp2_with fail
          obtain ⟨wp, rfl⟩ : ∃ wp : World, wp = wr := ⟨_, rfl⟩
          go_loopw [7, 9] (fun cc kk wr => ∃ (K cr : Nat) (M : List Nat), K0 ≤ K ∧ K ≤ K0 + 1 ∧ cc = .int .i64 (cr : Int) ∧ kk = .int .i64 (K : Int) ∧ Hid (cr < 65536 ∧ M.length = m ∧ Digs 65536 M ∧ ofd 65536 M + 65536 ^ K * cr = ofd 65536 (l.take (a + 1)) * ofd 65536 l') ∧ Hid (Blk wr (w.heap.size + 1 + 1 + 1) 3 (ints M).toArray ∧ Blk wr w.heap.size 30 #[.bool neg, .slice A n c, .int .i64 E] ∧ Blk wr (w.heap.size + 1) 30 #[.bool neg', .slice A' n' c', .int .i64 E'] ∧ Blk wr (w.heap.size + 1 + 1) 30 #[.bool false, .slice none 0 0, .int .i64 0] ∧ Below w.heap.size w wr)) (fun _ k _ => K0 + 1 - (intOf k).toNat)
          case atStart => exact ⟨K0, cr, M2, Nat.le_refl _, by omega, rfl, rfl, Lib.hid ⟨HM.out.1, HM.out.2.1, HM.out.2.2.1, HT.out⟩, HS⟩
          case round =>
            clear x0 x1 x2 y0 y1 y2 HS HM HT
            obtain ⟨K, cr, M3, hKa, hKb, rfl, rfl, HM, HS⟩ := hrel
            obtain ⟨x0, x1, x2⟩ := cells3 HS.out.2.1
            obtain ⟨y0, y1, y2⟩ := cells3 HS.out.2.2.1
            by_cases hc0 : cr = 0
            · subst hc0
              have hz0 : ¬ (0 : Int) < ((0 : Nat) : Int) := by omega
              have HW0 := Lib.hid (show wrap64 ((a : Int) + 1) = (a : Int) + 1 from wrap64_in (by have := HM0.out; omega))
              have HD := Lib.hid (show ofd 65536 M3 = ofd 65536 (l.take (a + 1)) * ofd 65536 l' by have := HM.out.2.2.2; rw [Nat.mul_zero] at this; exact this)
              go_wp2_with fail
              go_roundw
              case rel => exact ⟨a + 1, by have := HLT.out.1; omega, by rw [HW0.out]; rfl, M3, Lib.hid ⟨HM.out.2.1, HM.out.2.2.1, HD.out⟩, HS⟩
              case measure => have := HLT.out.1; rw [HW0.out]; simp [intOf]; omega
            · have hz0 : 0 < cr := by omega
              have hz1 : (0 : Int) < (cr : Int) := by omega
              have hpl := mul_place HM.out.2.2.2 HT2.out (by omega)
              rw [← HNL.out.2, HK0.out] at hpl
              have hKm : K < m := by have := HM0.out; have := HK0.out; omega
              have hKm1 : (K : Int) < (m : Int) := by omega
              have hKM : K < M3.length := by rw [HM.out.2.1]; exact hKm
              have z0 := HS.out.1.cell K
              rw [ints_arr M3 K hKM] at z0
              have z1 := HS.out.1.frozen K
              have hz6 := HM.out.2.2.1.get K hKM
              obtain ⟨z, hz⟩ : ∃ z, M3[K] = z := ⟨_, rfl⟩
              rw [hz] at z0 hz6
              obtain ⟨V, V1, V2, eV, wV, wV2, m5, m1, m2, m3, m4, hV2, hV1, hq1, hq2⟩ := put_facts0 HM.out.1 hz6
              have HW3 := Lib.hid (show wrap64 ((K : Int) + 1) = (K : Int) + 1 from wrap64_in (by have := HM0.out; omega))
              have HStep := Lib.hid (put_step0 hKM hz HM.out.2.2.2 hq1 hq2)
              have HV := Lib.hid (And.intro hV1 hV2)
              have hs1 := HS.out.1.set_ K (.int .i64 (V1 : Int))
              rw [ints_set] at hs1
              have HS1 := Lib.hid hs1
              have HPL := Lib.hid (And.intro hpl hKa)
              clear hs1 hV1 hV2 hq1 hq2 hz hz6 hKM hKa hKb hpl hc0
              go_wp2_with fail
              go_roundw
              case rel => exact ⟨K + 1, V2, M3.set K V1, by have := HPL.out; omega, by have := HPL.out; omega, by rw [m5], by rw [HW3.out]; rfl, Lib.hid ⟨HV.out.2, by rw [List.length_set]; exact HM.out.2.1, HM.out.2.2.1.set K HV.out.1, HStep.out⟩, Lib.hid ⟨HS1.out, HS.out.2.1.other (by simp <;> omega) _, HS.out.2.2.1.other (by simp <;> omega) _, HS.out.2.2.2.1.other (by simp) _, HS.out.2.2.2.2.setCell (by simp <;> omega) _⟩⟩
              case measure => have := HPL.out; rw [HW3.out]; simp [intOf]; omega
    · obtain rfl : a = n := by omega
      have hlt1 : ¬ (a : Int) < (a : Int) := by omega
      have hwE := HE.out.1
      have hlm : m = M.length := HM.out.1.symm
      have HRm := Lib.hid (show Rd wo (some ⟨w.heap.size + 1 + 1 + 1, 0, none⟩) m m M from ⟨hlm, Nat.le_refl _, .inr ⟨w.heap.size + 1 + 1 + 1, 0, rfl, fun i v hi => by
        rw [Nat.zero_add, HS.out.1.cell i, List.getElem?_toArray]; exact hi⟩, HM.out.2.1, fun b y e _ => by
        injection e with e; injection e with e1 e2
        subst e1
        exact IntB.of_blk HS.out.1⟩)
      have HVal := Lib.hid (show rdy (neg != neg') M (E + E') = rdy neg l E * rdy neg' l' E' from dy_mulv neg neg' l l' M E E' (by have := HM.out.2.2; rw [HNL.out.1, ofd_take_all _ _ _ (Nat.le_refl _)] at this; exact this))
      have HBd := Lib.hid (And.intro HM0.out.2 HE.out.2)
      have HR1 := Lib.hid HS.out.2.2.2.1
      have HB1 := Lib.hid HS.out.2.2.2.2
      clear hlm HS
      go_wp2_with fail
      refine (made_any (!(neg == neg')) _ m m M (E + E') wo HRm.out HBd.out.1 HBd.out.2 (by have := HBd.out.1; omega)).mono ?_
      rintro e w4 ⟨ng4, A4, n4, c4, E4, L4, rfl, hR4, hN4, hd4, hb⟩
      have HR4 := Lib.hid (HR1.out.next hb)
      have f0 := HR4.out.frozen 0
      have f1 := HR4.out.frozen 1
      have f2 := HR4.out.frozen 2
      obtain ⟨r0, r1, r2⟩ := cells3 HR4.out
      have HB4 := Lib.hid (below_nx HB1.out hb)
      have HRd4 := Lib.hid hR4
      have HN4 := Lib.hid hN4
      have HD4 := Lib.hid (show rdy ng4 L4 E4 = rdy neg l E * rdy neg' l' E' from hd4.trans HVal.out)
      clear hb hR4 hN4 hd4 x0 x1 x2 y0 y1 y2
      go_wp2_with fail
      obtain ⟨q0, q1, q2⟩ := cells3 (Blk.store3 HR4.out (.bool ng4) (.slice A4 n4 c4) (.int .i64 E4))
      exact bodyPost_ret (v := .agg #[.bool ng4, .slice A4 n4 c4, .int .i64 E4]) (by simp [results, Tryz.results10, go_sem, q0, q1, q2]) rfl (retR_done HR4.out HRd4.out HN4.out HD4.out HB4.out (by omega))
end Go.Proofs.YtbkbeglmfhaleaaGreatDoor
/-
The document's sums, products, shifts, of values that hold numbers. Conditions: the numbers lie in few digits.
-/
set_option linter.unusedVariables false
set_option linter.unusedSimpArgs false
set_option linter.unnecessarySimpa false
namespace Go.Proofs.YtbkbeglmfhaleaaGreatDoor
open Go.RowKit
attribute [local go_sem ↓] Go.wp_at_zero Go.wp_at_succ

theorem neat_nil {neg : Bool} {l : List Nat} {E : Int} (h : Neat neg l E) (hn : neg = true) : l ≠ [] := by
  rcases h with ⟨_, h, _⟩ | ⟨h, _⟩
  · rw [hn] at h; cases h
  · exact h
theorem rd_zero {w : World} {A : Option Addr} {n c : Nat} {l : List Nat} (h : Rd w A n c l) : n = 0 ↔ l = [] := by
  rw [h.1]; exact List.length_eq_zero_iff
theorem radd_any (p : Bool) (A : Option Addr) (n c : Nat) (l : List Nat) (E : Int) (p' : Bool) (A' : Option Addr) (n' c' : Nat) (l' : List Nat) (E' : Int) (w : World) (h : Rd w A n c l) (h' : Rd w A' n' c' l') (hN : Neat p l E) (hN' : Neat p' l' E') (hn : n ≤ 536870912) (hn' : n' ≤ 536870912) (hE : E.natAbs ≤ 1073741824) (hE' : E'.natAbs ≤ 1073741824) :
    Calls Tryz.prog 9 #[.agg #[.bool p, .slice A n c, .int .i64 E], .agg #[.bool p', .slice A' n' c', .int .i64 E']] w (RetR (rdy p l E + rdy p' l' E') w) := by
  obtain ⟨⟨fr, tz⟩, hf⟩ : ∃ ft, endsF n E n' E' = ft := ⟨_, rfl⟩
  obtain ⟨N, hT⟩ : ∃ N : Nat, fr + N = tz := ⟨(tz - fr).toNat, by have := (ends_ok hf).2.2; omega⟩
  cases p <;> cases p'
  · exact radd_ff A n c l E A' n' c' l' E' w h h' hn hn' hE hE'
  · have h1 : n' ≠ 0 := fun e => neat_nil hN' rfl ((rd_zero h').1 e)
    by_cases h0 : n = 0
    · exact radd_z1 A n c l E A' n' c' l' E' w h h' hn hn' hE hE' h0
    · by_cases hC : dsum l E fr N < dsum l' E' fr N
      · exact radd_s1 A n c l E A' n' c' l' E' w h h' hn hn' hE hE' h0 h1 fr tz N hf hT hC
      · exact radd_n1 A n c l E A' n' c' l' E' w h h' hn hn' hE hE' h0 h1 fr tz N hf hT (Nat.le_of_not_lt hC)
  · have h0 : n ≠ 0 := fun e => neat_nil hN rfl ((rd_zero h).1 e)
    by_cases h1 : n' = 0
    · exact radd_z2 A n c l E A' n' c' l' E' w h h' hn hn' hE hE' h1 h0
    · by_cases hC : dsum l E fr N < dsum l' E' fr N
      · exact radd_s2 A n c l E A' n' c' l' E' w h h' hn hn' hE hE' h0 h1 fr tz N hf hT hC
      · exact radd_n2 A n c l E A' n' c' l' E' w h h' hn hn' hE hE' h0 h1 fr tz N hf hT (Nat.le_of_not_lt hC)
  · exact radd_tt A n c l E A' n' c' l' E' w h h' hn hn' hE hE'

/-- The call returned a value that holds the number. -/
def RetV (d : Dyadic) (w : World) (e : Ending) (w' : World) : Prop := ∃ v, e = .returned v ∧ DV w' v d ∧ Below w.heap.size w w'
theorem RetR.retv {d : Dyadic} {w : World} {e : Ending} {w' : World} (h : RetR d w e w') : RetV d w e w' := h.dv
/-- What the value is. -/
theorem DV.parts {W : World} {v : Value} {d : Dyadic} (h : DV W v d) (hf : Fitd d) :
    ∃ (neg : Bool) (A : Option Addr) (n c : Nat) (E : Int) (l : List Nat), v = .agg #[.bool neg, .slice A n c, .int .i64 E] ∧ Rd W A n c l ∧ Neat neg l E ∧ rdy neg l E = d ∧ n ≤ 268435456 ∧ E.natAbs ≤ 536870912 := by
  obtain ⟨neg, A, n, c, E, l, h1, h2, h3, h4⟩ := h
  have := fitd_in h3 h2.2.2.2.1 (by rw [h4]; exact hf)
  exact ⟨neg, A, n, c, E, l, h1, h2, h3, h4, by rw [h2.1]; exact this.1, this.2⟩
theorem radd_v {v v' : Value} {d d' : Dyadic} {w : World} (h : DV w v d) (h' : DV w v' d') (hf : Fitd d) (hf' : Fitd d') :
    Calls Tryz.prog 9 #[v, v'] w (RetV (d + d') w) := by
  obtain ⟨neg, A, n, c, E, l, rfl, h2, h3, rfl, h5, h6⟩ := h.parts hf
  obtain ⟨neg', A', n', c', E', l', rfl, h2', h3', rfl, h5', h6'⟩ := h'.parts hf'
  exact (radd_any neg A n c l E neg' A' n' c' l' E' w h2 h2' h3 h3' (by omega) (by omega) (by omega) (by omega)).mono fun e w' h => h.retv
theorem rmul_v {v v' : Value} {d d' : Dyadic} {w : World} (h : DV w v d) (h' : DV w v' d') (hf : Fitd d) (hf' : Fitd d') :
    Calls Tryz.prog 10 #[v, v'] w (RetV (d * d') w) := by
  obtain ⟨neg, A, n, c, E, l, rfl, h2, h3, rfl, h5, h6⟩ := h.parts hf
  obtain ⟨neg', A', n', c', E', l', rfl, h2', h3', rfl, h5', h6'⟩ := h'.parts hf'
  exact (rmul_any neg A n c l E neg' A' n' c' l' E' w h2 h2' (by omega) (by omega) (by omega) (by omega)).mono fun e w' h => h.retv
theorem dy_one (m e k : Int) : dy m e * dy 1 k = dy m (e + k) := by rw [dy_mul, Int.mul_one]
theorem rshift_v {v : Value} {d : Dyadic} {w : World} (k : Int) (hk : k.natAbs ≤ 1099511627776) (h : DV w v d) (hf : Fitd d) :
    Calls Tryz.prog 22 #[v, .int .i64 k] w (RetV (d * dy 1 k) w) := by
  obtain ⟨neg, A, n, c, E, l, rfl, h2, h3, rfl, h5, h6⟩ := h.parts hf
  refine (rshift_any neg A n c l E k w h2 (by omega) (by omega) (by omega)).mono fun e w' h => ?_
  have := h.retv
  rw [← dy_one] at this
  exact this
theorem rint_v (k : Int) (w : World) (h0 : -9223372036854775808 ≤ k) (h1 : k ≤ 9223372036854775807) :
    Calls Tryz.prog 8 #[.int .i64 k] w (RetV (dy k 0) w) := (rint_any k w h0 h1).mono fun e w' h => h.retv
theorem neg_rdy (neg : Bool) (l : List Nat) (E : Int) : rdy (!neg) l E = -rdy neg l E := by
  rw [rdy_sgd, rdy_sgd, sgd_not, dy_neg]
theorem neat_not {neg : Bool} {l : List Nat} {E : Int} (h : Neat neg l E) (hl : l ≠ []) : Neat (!neg) l E := by
  rcases h with ⟨h, _⟩ | h
  · exact absurd h hl
  · exact .inr h
theorem rminus_v {v : Value} {d : Dyadic} {w : World} (h : DV w v d) :
    Calls Tryz.prog 16 #[v] w (RetV (-d) w) := by
  obtain ⟨neg, A, n, c, E, l, rfl, h2, h3, rfl⟩ := h
  refine (rminus_any neg A n c E w).mono ?_
  rintro e w' ⟨rfl, hb⟩
  refine ⟨_, rfl, ⟨_, A, n, c, E, l, rfl, h2.below hb, ?_, ?_⟩, hb⟩
  · by_cases h0 : n = 0
    · rw [if_pos h0]; exact h3
    · rw [if_neg h0]; exact neat_not h3 (fun e => h0 ((rd_zero h2).2 e))
  · by_cases h0 : n = 0
    · rw [if_pos h0, (rd_zero h2).1 h0, rdy_nil]; rfl
    · rw [if_neg h0, neg_rdy]
/-- The size of a number. -/
def dabs (d : Dyadic) : Dyadic := if d < 0 then -d else d
theorem dabs_dy (m e : Int) : dabs (dy m e) = dy m.natAbs e := by
  unfold dabs
  have h := dy_lt m 0 e
  rw [dy_zero] at h
  by_cases hm : m < 0
  · rw [if_pos (h.2 hm), dy_neg]; congr 1; omega
  · rw [if_neg (fun hh => hm (h.1 hh))]; congr 1; omega
theorem rabs_v {v : Value} {d : Dyadic} {w : World} (h : DV w v d) :
    Calls Tryz.prog 18 #[v] w (RetV (dabs d) w) := by
  obtain ⟨neg, A, n, c, E, l, rfl, h2, h3, rfl⟩ := h
  refine (rabsd_any neg A n c E w).mono ?_
  rintro e w' ⟨rfl, hb⟩
  refine ⟨_, rfl, ⟨false, A, n, c, E, l, rfl, h2.below hb, ?_, ?_⟩, hb⟩
  · rcases h3 with ⟨h, _, h1⟩ | h
    · exact .inl ⟨h, rfl, h1⟩
    · exact .inr h
  · rw [rdy_sgd, rdy_sgd, dabs_dy, sgd_abs]; rfl
/-- The sign of a number. -/
theorem rsign_v {v : Value} {d : Dyadic} {w : World} (h : DV w v d) {m e : Int} (hd : d = dy m e) :
    Calls Tryz.prog 27 #[v] w fun e w' => e = .returned (.int .i64 m.sign) ∧ Below w.heap.size w w' := by
  obtain ⟨neg, A, n, c, E, l, rfl, h2, h3, h4⟩ := h
  rw [hd] at h4
  have hs : (if n = 0 then (0 : Int) else if neg = true then -1 else 1) = m.sign := by
    have hz := neat_zero h3 h2.2.2.2.1
    have hg := neat_neg h3 h2.2.2.2.1 h4
    rw [h4, dy_eq_zero] at hz
    by_cases h0 : n = 0
    · rw [if_pos h0, hz.1 ((rd_zero h2).1 h0)]; rfl
    · rw [if_neg h0]
      have hm : m ≠ 0 := fun e => h0 ((rd_zero h2).2 (hz.2 e))
      by_cases hn : m < 0
      · rw [hg, if_pos (by simpa using hn), Int.sign_eq_neg_one_of_neg hn]
      · rw [hg, if_neg (by simpa using hn), Int.sign_eq_one_of_pos (by omega)]
  rw [← hs]
  exact rsignd_any neg A n c E w

/-- The box holds the number. -/
def Bx (W : World) (g : Nat) (d : Dyadic) : Prop := ∃ (neg : Bool) (A : Option Addr) (n c : Nat) (E : Int) (l : List Nat), Blk W g 30 #[.bool neg, .slice A n c, .int .i64 E] ∧ Rd W A n c l ∧ Neat neg l E ∧ rdy neg l E = d
theorem Bx.below {W W' : World} {g : Nat} {d : Dyadic} (h : Bx W g d) (hb : Below W.heap.size W W') : Bx W' g d := by
  obtain ⟨neg, A, n, c, E, l, h1, h2, h3, h4⟩ := h
  exact ⟨neg, A, n, c, E, l, h1.next hb, h2.below hb, h3, h4⟩
theorem DV.far {W : World} {v : Value} {d : Dyadic} (h : DV W v d) {g : Nat} {t : TypeId} {cs : Array Value} (hB : Blk W g t cs) (ht : t ≠ 3) (i : Nat) (u : Value) : DV (W.setCell ⟨g, i, none⟩ u) v d := by
  obtain ⟨neg, A, n, c, E, l, h1, h2, h3, h4⟩ := h
  exact ⟨neg, A, n, c, E, l, h1, h2.far hB ht i u, h3, h4⟩
theorem Bx.lt {W : World} {g : Nat} {d : Dyadic} (h : Bx W g d) : g < W.heap.size := by
  obtain ⟨neg, A, n, c, E, l, h1, h2, h3, h4⟩ := h
  exact h1.lt
/-- Stored into a box. -/
theorem bx_store {W : World} {g : Nat} {x0 x1 x2 : Value} {ng : Bool} {A : Option Addr} {n c : Nat} {E : Int} {L : List Nat} {D : Dyadic} (hB : Blk W g 30 #[x0, x1, x2]) (hR : Rd W A n c L) (hN : Neat ng L E) (hd : rdy ng L E = D) :
    Bx (((W.setCell ⟨g, 0, none⟩ (.bool ng)).setCell ⟨g, 1, none⟩ (.slice A n c)).setCell ⟨g, 2, none⟩ (.int .i64 E)) g D :=
  ⟨ng, A, n, c, E, L, Blk.store3 hB _ _ _, ((hR.far hB (by decide) 0 _).far (hB.set_ 0 _) (by decide) 1 _).far ((hB.set_ 0 _).set_ 1 _) (by decide) 2 _, hN, hd⟩
end Go.Proofs.YtbkbeglmfhaleaaGreatDoor
/-
The document's Of, Sub, Cmp. Conditions: the numbers lie in few digits.
-/
set_option linter.unusedVariables false
set_option linter.unusedSimpArgs false
set_option linter.unnecessarySimpa false
namespace Go.Proofs.YtbkbeglmfhaleaaGreatDoor
open Go.RowKit
attribute [local go_sem ↓] Go.wp_at_zero Go.wp_at_succ

theorem fitd_neg {d : Dyadic} (h : Fitd d) : Fitd (-d) := by
  obtain ⟨lo, k, m, h1, h2, rfl, h4⟩ := h
  exact ⟨lo, k, -m, h1, h2, by rw [dy_neg], by rwa [Int.natAbs_neg]⟩
theorem fitd_float {b : Nat} (h : Fl.rung b < Fl.INF) : Fitd (fdy b) := fitd_of (j := 2098) (val_lt_big 2098 rfl h) (by omega) (by omega)

theorem rof_v (b : Nat) (w : World) (hb : b < 18446744073709551616) (hf : Fl.rung b < Fl.INF) : Calls Tryz.prog 32 #[.float .f64 b] w (RetV (fdy b) w) := by
  have HP := fun W => parts_any b W hb
  have e1 : partM b = (Fl.pm b : Int) := by unfold partM; rw [if_pos hf]
  have e2 : partE b = (Fl.pe b : Int) - 1074 := by unfold partE; rw [if_pos hf]
  rw [e1, e2] at HP
  have HP := Lib.hid HP
  have HW := Lib.hid (fun W => whole_any (Fl.sg b) (Fl.pm b) W (by have := Fl.pm_lt b; omega))
  have HF := Lib.hid (show Fitd (dy (if Fl.sg b then -(Fl.pm b : Int) else (Fl.pm b : Int)) 0) from fitd_of (j := 53) (by have := Fl.pm_lt b; rw [show (2 : Nat) ^ 53 = 9007199254740992 by decide]; split <;> omega) (by omega) (by omega))
  have HK := Lib.hid (show ((Fl.pe b : Int) - 1074).natAbs ≤ 1099511627776 by have := Fl.pe_lt hf; omega)
  have HV := Lib.hid (show dy (if Fl.sg b then -(Fl.pm b : Int) else (Fl.pm b : Int)) 0 * dy 1 ((Fl.pe b : Int) - 1074) = fdy b by rw [dy_one, Int.zero_add, fdy_parts])
  have HR0 := Lib.hid (Blk.new w 30 #[.bool false, .slice none 0 0, .int .i64 0])
  have HB0 := Lib.hid ((Below.refl w.heap.size w).alloc (Nat.le_refl _) (.cells #[.bool false, .slice none 0 0, .int .i64 0] 30))
  generalize dy (if Fl.sg b then -(Fl.pm b : Int) else (Fl.pm b : Int)) 0 = D0 at *
  generalize Fl.sg b = sb at *
  obtain ⟨ee, hee⟩ : ∃ ee : Int, (Fl.pe b : Int) - 1074 = ee := ⟨_, rfl⟩
  rw [hee] at HP HK HV
  generalize Fl.pm b = pm at *
  clear e1 e2 hee hb hf
  go_enter Tryz.func32, Tryz.ntmps32
  go_wp2_with fail
  refine (HP.out _).mono ?_
  rintro e w1 ⟨rfl, rfl⟩
  go_wp2_with fail
  refine (HW.out _).mono ?_
  intro e w1 hr
  obtain ⟨v1, rfl, hv1, hb1⟩ := hr.retv
  have HV1 := Lib.hid hv1
  have HR1 := Lib.hid (HR0.out.next hb1)
  have HB1 := Lib.hid (below_nx HB0.out hb1)
  clear hv1 hb1 hr
  go_wp2_with fail
  refine (rshift_v ee HK.out HV1.out (by exact HF.out)).mono ?_
  rintro e w2 ⟨v9, rfl, ⟨ng9, A9, n9, c9, E9, L9, rfl, hR9, hN9, hd9⟩, hb2⟩
  have HR2 := Lib.hid (HR1.out.next hb2)
  have HB2 := Lib.hid (below_nx HB1.out hb2)
  clear hb2
  replace hd9 := hd9.trans HV.out
  have f0 := HR2.out.frozen 0
  have f1 := HR2.out.frozen 1
  have f2 := HR2.out.frozen 2
  obtain ⟨r0, r1, r2⟩ := cells3 HR2.out
  have HRd9 := Lib.hid hR9
  have HN9 := Lib.hid hN9
  have HD9 := Lib.hid (show rdy ng9 L9 E9 = fdy b from hd9)
  clear hR9 hN9 hd9
  go_wp2_with fail
  obtain ⟨q0, q1, q2⟩ := cells3 (Blk.store3 HR2.out (.bool ng9) (.slice A9 n9 c9) (.int .i64 E9))
  exact bodyPost_ret (v := .agg #[.bool ng9, .slice A9 n9 c9, .int .i64 E9]) (by simp [results, Tryz.results32, go_sem, q0, q1, q2]) rfl (retR_done HR2.out HRd9.out HN9.out HD9.out HB2.out (by omega)).retv

set_option maxRecDepth 100000 in
set_option maxHeartbeats 4000000 in
theorem rsub_v {v v' : Value} {X Y : Dyadic} {w : World} (h : DV w v X) (h' : DV w v' Y) (hf : Fitd X) (hf' : Fitd Y) :
    Calls Tryz.prog 14 #[v, v'] w (RetV (X - Y) w) := by
  have HF := Lib.hid (And.intro hf (fitd_neg hf'))
  have HDV := Lib.hid (fun W (hb : Below w.heap.size w W) => h.below hb)
  have HDV' := Lib.hid (fun W (hb : Below w.heap.size w W) => h'.below hb)
  obtain ⟨neg, A, n, c, E, l, rfl, _, _, _⟩ := h
  obtain ⟨neg', A', n', c', E', l', rfl, _, _, _⟩ := h'
  have HX := Lib.hid (((Blk.new w 30 #[.bool neg, .slice A n c, .int .i64 E]).alloc (.cells #[.bool neg', .slice A' n' c', .int .i64 E'] 30)).alloc (.cells #[.bool false, .slice none 0 0, .int .i64 0] 30))
  have HY := Lib.hid ((Blk.new_ (w.alloc (.cells #[.bool neg, .slice A n c, .int .i64 E] 30)) 30 #[.bool neg', .slice A' n' c', .int .i64 E'] (w.heap.size + 1) (by simp)).alloc (.cells #[.bool false, .slice none 0 0, .int .i64 0] 30))
  have HR := Lib.hid (Blk.new_ ((w.alloc (.cells #[.bool neg, .slice A n c, .int .i64 E] 30)).alloc (.cells #[.bool neg', .slice A' n' c', .int .i64 E'] 30)) 30 #[.bool false, .slice none 0 0, .int .i64 0] (w.heap.size + 1 + 1) (by simp))
  have HBr := Lib.hid ((((Below.refl w.heap.size w).alloc (Nat.le_refl _) (.cells #[.bool neg, .slice A n c, .int .i64 E] 30)).alloc (by simp) (.cells #[.bool neg', .slice A' n' c', .int .i64 E'] 30)).alloc (by simp; omega) (.cells #[.bool false, .slice none 0 0, .int .i64 0] 30))
  clear hf hf'
  go_enter Tryz.func14, Tryz.ntmps14
  go_wp2_with fail
  generalize hW0 : (((w.alloc (.cells #[.bool neg, .slice A n c, .int .i64 E] 30)).alloc (.cells #[.bool neg', .slice A' n' c', .int .i64 E'] 30)).alloc (.cells #[.bool false, .slice none 0 0, .int .i64 0] 30)) = W0 at *
  clear hW0
  refine wp_region_inv [5, 6, 7, 8] (fun d s W => (d 0 = true → s 5 = .agg #[.bool neg, .slice A n c, .int .i64 E]) ∧ (d 1 = true → s 6 = .agg #[.bool neg', .slice A' n' c', .int .i64 E']) ∧ (d 2 = true → DV W (s 7) (-Y)) ∧ (d 3 = true → DV W (s 8) (X + -Y)) ∧ (d 2 = true → d 1 = true) ∧ (d 3 = true → d 0 = true ∧ d 1 = true ∧ d 2 = true) ∧ (d 4 = true → d 0 = true ∧ d 1 = true ∧ d 2 = true ∧ d 3 = true) ∧ ((d 4 = false → Below W0.heap.size W0 W) ∧ (d 4 = true → Bx W (w.heap.size + 1 + 1) (X + -Y) ∧ Below w.heap.size w W)))
    rfl (by kernel_rfl) ?_ ?_ ?_
  · exact ⟨by simp, by simp, by simp, by simp, by simp, by simp, by simp, ⟨fun _ => (Below.refl _ _).drew, fun h => by simp at h⟩⟩
  · refine ⟨?_, ?_, ?_, ?_, ?_, trivial⟩
    all_goals
      intro d s W hJ hfr hd hdep
      simp only [List.mem_cons, forall_eq_or_imp, List.not_mem_nil, false_implies, implies_true, and_true, Region.binds] at hdep
      have f2 := hfr 2 (by decide)
      have f3 := hfr 3 (by decide)
      have f4 := hfr 4 (by decide)
      simp at f2 f3 f4 hdep
      obtain ⟨h0, h1, h2, h3, x0, x1, x2, hT⟩ := hJ
    · have hl : d 4 = false := by
        cases h : d 4
        · rfl
        · have := x2 h; simp [hd] at this
      replace hT := hT.1 hl
      unfold OpSteps
      obtain ⟨p0, p1, p2⟩ := cells3 (HX.out.below hT HX.out.lt)
      simp [go_sem, evS, f2, p0, p1, p2]
      exact ⟨fun _ => by simp [sput], fun h => by simpa [sput] using h1 (by simpa [did] using h), fun h => by simpa [sput] using h2 (by simpa [did] using h), fun h => by simpa [sput] using h3 (by simpa [did] using h), fun h => by have := x0 (by simpa [did] using h); simp [did, this], fun h => by have := x1 (by simpa [did] using h); simp [did, this], fun h => by have := x2 (by simpa [did] using h); simp [did, this], ⟨fun _ => hT, fun h => by simp [did, hl] at h⟩⟩
    · have hl : d 4 = false := by
        cases h : d 4
        · rfl
        · have := x2 h; simp [hd] at this
      replace hT := hT.1 hl
      unfold OpSteps
      obtain ⟨p0, p1, p2⟩ := cells3 (HY.out.below hT HY.out.lt)
      simp [go_sem, evS, f3, p0, p1, p2]
      exact ⟨fun h => by simpa [sput] using h0 (by simpa [did] using h), fun _ => by simp [sput], fun h => by simpa [sput] using h2 (by simpa [did] using h), fun h => by simpa [sput] using h3 (by simpa [did] using h), fun h => by have := x0 (by simpa [did] using h); simp [did, this], fun h => by have := x1 (by simpa [did] using h); simp [did, this], fun h => by have := x2 (by simpa [did] using h); simp [did, this], ⟨fun _ => hT, fun h => by simp [did, hl] at h⟩⟩
    · have hl : d 4 = false := by
        cases h : d 4
        · rfl
        · have := x2 h; simp [hd] at this
      replace hT := hT.1 hl
      have fz1 := h1 (by simp [hdep])
      unfold OpSteps
      simp [go_sem, evS, fz1]
      refine (rminus_v (HDV'.out W (below_nx HBr.out hT))).mono ?_
      rintro e W' ⟨v9, rfl, hv, hb⟩
      refine ⟨_, rfl, ?_⟩
      exact ⟨fun h => by simpa [sput] using h0 (by simpa [did] using h), fun h => by simpa [sput] using h1 (by simpa [did] using h), fun _ => by simpa [sput] using hv, fun h => by simpa [sput] using (h3 (by simpa [did] using h)).below hb, fun _ => by simp [did, hdep], fun h => by have := x1 (by simpa [did] using h); simp [did, this], fun h => by have := x2 (by simpa [did] using h); simp [did, this], ⟨fun _ => below_nx hT hb, fun h => by simp [did, hl] at h⟩⟩
    · have hl : d 4 = false := by
        cases h : d 4
        · rfl
        · have := x2 h; simp [hd] at this
      replace hT := hT.1 hl
      have fz0 := h0 (by simp [hdep])
      have fz2 := h2 (by simp [hdep])
      unfold OpSteps
      simp [go_sem, evS, fz0, fz2]
      refine (radd_v (HDV.out W (below_nx HBr.out hT)) fz2 HF.out.1 HF.out.2).mono ?_
      rintro e W' ⟨v9, rfl, hv, hb⟩
      refine ⟨_, rfl, ?_⟩
      exact ⟨fun h => by simpa [sput] using h0 (by simpa [did] using h), fun h => by simpa [sput] using h1 (by simpa [did] using h), fun h => by simpa [sput] using (h2 (by simpa [did] using h)).below hb, fun _ => by simpa [sput] using hv, fun h => by have := x0 (by simpa [did] using h); simp [did, this], fun _ => by have y2 := x0 (by simp [hdep]); simp [did, hdep, y2], fun h => by have := x2 (by simpa [did] using h); simp [did, this], ⟨fun _ => below_nx hT hb, fun h => by simp [did, hl] at h⟩⟩
    · have fz3 := h3 (by simp [hdep])
      unfold OpSteps
      replace hT := hT.1 hd
      obtain ⟨ng, A9, n9, c9, E9, L9, gv, gR, gN, gd⟩ := fz3
      have hB9 := HR.out.below hT HR.out.lt
      have fr0 := hB9.frozen 0
      have fr1 := hB9.frozen 1
      have fr2 := hB9.frozen 2
      obtain ⟨k0, k1, k2⟩ := cells3 hB9
      simp [go_sem, evS, f4, gv, fr0, fr1, fr2, k0, k1, k2]
      exact ⟨fun h => by simpa [sput] using h0 (by simpa [did] using h), fun h => by simpa [sput] using h1 (by simpa [did] using h), fun h => by simpa [sput] using ((((h2 (by simpa [did] using h)).far hB9 (by decide) 0 _).far (hB9.set_ 0 _) (by decide) 1 _).far ((hB9.set_ 0 _).set_ 1 _) (by decide) 2 _), fun h => by simpa [sput] using ((((h3 (by simpa [did] using h)).far hB9 (by decide) 0 _).far (hB9.set_ 0 _) (by decide) 1 _).far ((hB9.set_ 0 _).set_ 1 _) (by decide) 2 _), fun h => by have := x0 (by simpa [did] using h); simp [did, this], fun h => by have := x1 (by simpa [did] using h); simp [did, this], fun _ => by have y3 := x1 (by simp [hdep]); simp [did, hdep, y3], ⟨fun h => by simp [did] at h, fun _ => ⟨bx_store hB9 gR gN gd, ((((HBr.out.trans (hT.mono HBr.out.size)).setCell (p := ⟨w.heap.size + 1 + 1, 0, none⟩) (by simp <;> omega) _).setCell (p := ⟨w.heap.size + 1 + 1, 1, none⟩) (by simp <;> omega) _).setCell (p := ⟨w.heap.size + 1 + 1, 2, none⟩) (by simp <;> omega) _)⟩⟩⟩
  intro d s W hJ hd
  obtain ⟨h0, h1, h2, h3, x0, x1, x2, hT⟩ := hJ
  obtain ⟨hBx, hBl⟩ := hT.2 (hd 4 (by decide))
  clear h0 h1 h2 h3 x0 x1 x2 hT hd
  obtain ⟨ng9, A9, n9, c9, E9, L9, hB9, hR9, hN9, hd9⟩ := hBx
  obtain ⟨q0, q1, q2⟩ := cells3 hB9
  have HRet := Lib.hid (show RetV (X - Y) w (.returned (.agg #[.bool ng9, .slice A9 n9 c9, .int .i64 E9])) W from ⟨_, rfl, ⟨ng9, A9, n9, c9, E9, L9, rfl, hR9, hN9, hd9⟩, hBl⟩)
  clear hB9 hR9 hN9 hd9 hBl
  simp [setAll]
  generalize s 5 = s5
  generalize s 6 = s6
  generalize s 7 = s7
  generalize s 8 = s8
  go_wp2_with fail
  exact bodyPost_ret (v := .agg #[.bool ng9, .slice A9 n9 c9, .int .i64 E9]) (by simp [results, Tryz.results14, go_sem, q0, q1, q2]) rfl HRet.out

set_option maxRecDepth 100000 in
set_option maxHeartbeats 4000000 in
theorem rcmp_v {v v' : Value} {X Y : Dyadic} {w : World} (h : DV w v X) (h' : DV w v' Y) (hf : Fitd X) (hf' : Fitd Y) {m e : Int} (hd : X - Y = dy m e) :
    Calls Tryz.prog 29 #[v, v'] w fun e w' => e = .returned (.int .i64 m.sign) ∧ Below w.heap.size w w' := by
  have HSub := Lib.hid (fun W (hb : Below w.heap.size w W) => rsub_v (h.below hb) (h'.below hb) hf hf')
  have HD := Lib.hid hd
  obtain ⟨neg, A, n, c, E, l, rfl, _, _, _⟩ := h
  obtain ⟨neg', A', n', c', E', l', rfl, _, _, _⟩ := h'
  have HX := Lib.hid ((Blk.new w 30 #[.bool neg, .slice A n c, .int .i64 E]).alloc (.cells #[.bool neg', .slice A' n' c', .int .i64 E'] 30))
  have HY := Lib.hid (Blk.new_ (w.alloc (.cells #[.bool neg, .slice A n c, .int .i64 E] 30)) 30 #[.bool neg', .slice A' n' c', .int .i64 E'] (w.heap.size + 1) (by simp))
  have HBr := Lib.hid (((Below.refl w.heap.size w).alloc (Nat.le_refl _) (.cells #[.bool neg, .slice A n c, .int .i64 E] 30)).alloc (by simp) (.cells #[.bool neg', .slice A' n' c', .int .i64 E'] 30))
  clear hd hf hf'
  go_enter Tryz.func29, Tryz.ntmps29
  obtain ⟨a0, a1, a2⟩ := cells3 HX.out
  obtain ⟨b0, b1, b2⟩ := cells3 HY.out
  go_wp2_with fail
  refine (HSub.out _ HBr.out).mono ?_
  rintro e1 w1 ⟨v1, rfl, hv1, hb1⟩
  have HV1 := Lib.hid hv1
  have HB1 := Lib.hid (below_nx HBr.out hb1)
  clear hv1 hb1
  go_wp2_with fail
  refine (rsign_v HV1.out HD.out).mono ?_
  rintro e2 w2 ⟨rfl, hb2⟩
  have HB2 := Lib.hid (below_nx HB1.out hb2)
  clear hb2
  go_wp2_with fail
  go_ret
  exact ⟨rfl, HB2.out⟩

end Go.Proofs.YtbkbeglmfhaleaaGreatDoor
/-
How large a number is, and how fine: what is made of numbers lies in few digits. Conditions: none.
-/
set_option linter.unusedVariables false
namespace Go.Proofs.YtbkbeglmfhaleaaGreatDoor
open Go.RowKit

/-- Below 2^k, and a multiple of 2^-k. -/
def Sz (k : Nat) (d : Dyadic) : Prop := ∃ m : Int, d = dy m (-(k : Int)) ∧ m.natAbs < 2 ^ (2 * k)
theorem Sz.fit {k : Nat} {d : Dyadic} (h : Sz k d) (hk : k ≤ 134217720) : Fitd d := by
  obtain ⟨m, rfl, hm⟩ := h
  exact fitd_of hm (by omega) (by omega)
theorem Sz.mono {j k : Nat} {d : Dyadic} (h : Sz j d) (hk : j ≤ k) : Sz k d := by
  obtain ⟨m, rfl, hm⟩ := h
  refine ⟨m * 2 ^ (k - j), by rw [dy_pow]; congr 1; omega, ?_⟩
  have e : ((2 : Int) ^ (k - j)).natAbs = 2 ^ (k - j) := by rw [Int.natAbs_pow]; rfl
  rw [Int.natAbs_mul, e]
  have h1 : m.natAbs * 2 ^ (k - j) < 2 ^ (2 * j) * 2 ^ (k - j) := Nat.mul_lt_mul_of_pos_right hm (Nat.two_pow_pos _)
  rw [← Nat.pow_add] at h1
  exact Nat.lt_of_lt_of_le h1 (Nat.pow_le_pow_right (by omega) (by omega))
theorem Sz.add_ {k : Nat} {a b : Dyadic} (h : Sz k a) (h' : Sz k b) : Sz (k + 1) (a + b) := by
  obtain ⟨m, rfl, hm⟩ := h
  obtain ⟨n, rfl, hn⟩ := h'
  refine ⟨(m + n) * 2 ^ 1, by rw [dy_add, dy_pow]; congr 1; omega, ?_⟩
  rw [show 2 * (k + 1) = 2 * k + 2 by omega, Nat.pow_add]
  generalize 2 ^ (2 * k) = P at *
  omega
theorem Sz.add {j k n : Nat} {a b : Dyadic} (h : Sz j a) (h' : Sz k b) (hj : j < n) (hk : k < n) : Sz n (a + b) := by
  obtain ⟨n', rfl⟩ : ∃ n', n = n' + 1 := ⟨n - 1, by omega⟩
  exact (h.mono (by omega)).add_ (h'.mono (by omega))
theorem Sz.neg {k : Nat} {a : Dyadic} (h : Sz k a) : Sz k (-a) := by
  obtain ⟨m, rfl, hm⟩ := h
  exact ⟨-m, by rw [dy_neg], by omega⟩
theorem Sz.sub {j k n : Nat} {a b : Dyadic} (h : Sz j a) (h' : Sz k b) (hj : j < n) (hk : k < n) : Sz n (a - b) := Sz.add h h'.neg hj hk
theorem Sz.abs {k : Nat} {a : Dyadic} (h : Sz k a) : Sz k (dabs a) := by
  obtain ⟨m, rfl, hm⟩ := h
  exact ⟨m.natAbs, by rw [dabs_dy], by omega⟩
theorem Sz.mul {j k n : Nat} {a b : Dyadic} (h : Sz j a) (h' : Sz k b) (hn : j + k ≤ n) : Sz n (a * b) := by
  refine Sz.mono (j := j + k) ?_ hn
  obtain ⟨m, rfl, hm⟩ := h
  obtain ⟨q, rfl, hq⟩ := h'
  refine ⟨m * q, by rw [dy_mul]; congr 1; omega, ?_⟩
  rw [Int.natAbs_mul, show 2 * (j + k) = 2 * j + 2 * k by omega, Nat.pow_add]
  exact Nat.mul_lt_mul'' hm hq
theorem Sz.int {z : Int} {k : Nat} (h : z.natAbs < 2 ^ k) : Sz k (dy z 0) := by
  refine ⟨z * 2 ^ k, by rw [dy_pow]; congr 1; omega, ?_⟩
  have e : ((2 : Int) ^ k).natAbs = 2 ^ k := by rw [Int.natAbs_pow]; rfl
  rw [Int.natAbs_mul, e, show 2 * k = k + k by omega, Nat.pow_add]
  exact Nat.mul_lt_mul_of_pos_right h (Nat.two_pow_pos _)
theorem Sz.pow (s : Int) : Sz (s.natAbs + 1) (dy 1 s) := by
  obtain ⟨t, ht⟩ : ∃ t : Nat, (t : Int) = s + ((s.natAbs + 1 : Nat) : Int) := ⟨(s + ((s.natAbs + 1 : Nat) : Int)).toNat, by omega⟩
  refine ⟨1 * 2 ^ t, by rw [dy_pow]; congr 1; omega, ?_⟩
  have e : ((2 : Int) ^ t).natAbs = 2 ^ t := by rw [Int.natAbs_pow]; rfl
  rw [Int.natAbs_mul, e, show (1 : Int).natAbs = 1 from rfl, Nat.one_mul]
  exact Nat.pow_lt_pow_right (by omega) (by omega)
theorem Sz.shift {j n : Nat} {a : Dyadic} (h : Sz j a) (s : Int) (hn : j + s.natAbs + 1 ≤ n) : Sz n (a * dy 1 s) := h.mul (Sz.pow s) (by omega)
theorem Sz.float {b : Nat} (h : Fl.rung b < Fl.INF) : Sz 1074 (fdy b) := by
  obtain ⟨K, hK⟩ : ∃ K, K = 2098 := ⟨_, rfl⟩
  obtain ⟨J, hJ⟩ : ∃ J, J = 1074 := ⟨_, rfl⟩
  rw [← hJ]
  refine ⟨Fl.val b, by unfold fdy; congr 1; omega, ?_⟩
  exact Nat.lt_of_lt_of_le (val_lt_big K hK h) (Nat.pow_le_pow_right (by omega) (by omega))
theorem Sz.zero (k : Nat) : Sz k 0 := ⟨0, by rw [dy_zero], Nat.two_pow_pos _⟩
/-- A box that a pointer points to, made behind lo. -/
def NewB (W : World) (v : Value) (lo : Nat) : Prop := ∃ (g : Nat) (x0 x1 x2 : Value), v = .pointer (some ⟨g, 0, none⟩) ∧ Blk W g 30 #[x0, x1, x2] ∧ lo ≤ g
theorem NewB.below {W W' : World} {v : Value} {lo : Nat} (h : NewB W v lo) (hb : Below W.heap.size W W') : NewB W' v lo := by
  obtain ⟨g, x0, x1, x2, h1, h2, h3⟩ := h
  exact ⟨g, x0, x1, x2, h1, h2.next hb, h3⟩
/-- A pointer to a box that holds the number. -/
def BxP (W : World) (v : Value) (lo : Nat) (d : Dyadic) : Prop := ∃ g : Nat, v = .pointer (some ⟨g, 0, none⟩) ∧ Bx W g d ∧ lo ≤ g
theorem BxP.below {W W' : World} {v : Value} {lo : Nat} {d : Dyadic} (h : BxP W v lo d) (hb : Below W.heap.size W W') : BxP W' v lo d := by
  obtain ⟨g, h1, h2, h3⟩ := h
  exact ⟨g, h1, h2.below hb, h3⟩
end Go.Proofs.YtbkbeglmfhaleaaGreatDoor
/-
The program's numbers as values: what holds a dyadic number. Conditions: as each says.
-/
set_option linter.unusedVariables false
set_option linter.unusedSimpArgs false
namespace Go.Proofs.YtbkbeglmfhaleaaGreatDoor
open Go.RowKit
attribute [local go_sem ↓] Go.wp_at_zero Go.wp_at_succ

/-- The value holds the number, as the program keeps it. -/
def PV (W : World) (v : Value) (d : Dyadic) : Prop := ∃ (A : Option Addr) (n c : Nat) (A' : Option Addr) (n' c' : Nat), v = .agg #[.bool (ng (mant d)), .slice A n c, .bool (ng (expo d)), .slice A' n' c'] ∧ Dr W A n c A' n' c' d
theorem PV.below {W W' : World} {v : Value} {d : Dyadic} (h : PV W v d) (hb : Below W.heap.size W W') : PV W' v d := by
  obtain ⟨A, n, c, A', n', c', h1, h2⟩ := h
  exact ⟨A, n, c, A', n', c', h1, h2.below hb⟩
theorem PV.drew {W : World} {v : Value} {d : Dyadic} (h : PV W v d) : PV W.drew v d := h
/-- The call returned a value that holds the number. -/
def RetP (d : Dyadic) (w : World) (e : Ending) (w' : World) : Prop := ∃ v, e = .returned v ∧ PV w' v d ∧ Below w.heap.size w w'
theorem RetD.retp {d : Dyadic} {w : World} {e : Ending} {w' : World} (h : RetD d w e w') : RetP d w e w' := by
  obtain ⟨A, n, c, A', n', c', h1, h2, h3⟩ := h
  exact ⟨_, h1, ⟨A, n, c, A', n', c', rfl, h2⟩, h3⟩
/-- The call returned a value that holds the number, and another number. -/
def RetPT (d : Dyadic) (r : Int) (w : World) (e : Ending) (w' : World) : Prop := ∃ v, e = .returned (.tuple #[v, .int .i64 r]) ∧ PV w' v d ∧ Below w.heap.size w w'
theorem RetT.retp {d : Dyadic} {r : Int} {w : World} {e : Ending} {w' : World} (h : RetT d r w e w') : RetPT d r w e w' := by
  obtain ⟨A, n, c, A', n', c', h1, h2, h3⟩ := h
  exact ⟨_, h1, ⟨A, n, c, A', n', c', rfl, h2⟩, h3⟩
theorem PV.zero (W : World) (A A' : Option Addr) (c c' : Nat) : PV W (.agg #[.bool false, .slice A 0 c, .bool false, .slice A' 0 c']) 0 :=
  ⟨A, 0, c, A', 0, c', rfl, ⟨Wh.zero _ _ _, Wh.zero _ _ _⟩⟩
/-- The number isn't too great for the program's calls. -/
def Fitp (d : Dyadic) : Prop := wl (mant d) ≤ 137438953472 ∧ (expo d).natAbs ≤ 1000000000000000000
theorem two_q (k : Nat) : 2 ^ (2 * k) ≤ Q ^ k := by
  rw [Nat.pow_mul]
  exact Nat.pow_le_pow_left (by unfold Q; omega) k
theorem Sz.fitp {k : Nat} {d : Dyadic} (h : Sz k d) (hk : k ≤ 134217720) : Fitp d := by
  obtain ⟨m, rfl, hm⟩ := h
  by_cases h0 : m = 0
  · subst h0
    rw [dy_zero]
    exact ⟨by rw [mant_zero]; exact Nat.le_trans (Nat.le_of_eq ((wl_zero 0).2 rfl)) (Nat.zero_le _), by rw [expo_zero]; decide⟩
  · obtain ⟨y, v, hz, hy, ha, hb, hc⟩ := odd_part m h0
    obtain ⟨e1, e2⟩ := dy_parts (e := -(k : Int)) hz hy
    have hp : 1 ≤ 2 ^ v := Nat.one_le_two_pow
    have hy1 : 1 ≤ y.natAbs := by omega
    have hle : y.natAbs ≤ m.natAbs := by rw [ha]; exact Nat.le_mul_of_pos_right _ hp
    have hle2 : 2 ^ v ≤ m.natAbs := by rw [ha]; exact Nat.le_mul_of_pos_left _ hy1
    have hv : v < 2 * k := by
      rcases Nat.lt_or_ge v (2 * k) with h | h
      · exact h
      · have := Nat.pow_le_pow_right (show 0 < 2 by omega) h; omega
    refine ⟨?_, by rw [e2]; omega⟩
    rw [e1]
    refine Nat.le_trans ((wl_le y k).2 ?_) (by omega)
    have := two_q k
    omega
theorem pint_v (k : Int) (w : World) (h0 : -9223372036854775808 ≤ k) (h1 : k ≤ 9223372036854775807) (hg : Glob w) :
    Calls Tryz.prog 51 #[.int .i64 k] w (RetP (dy k 0) w) := (int_any k w h0 h1 hg).mono fun e w' h => h.retp
theorem pof_v (b : Nat) (w : World) (hb : b < 18446744073709551616) (hg : Glob w) :
    Calls Tryz.prog 30 #[.float .f64 b] w (RetPT (if Fl.fin b then fdy b else 0) (if Fl.fin b then 0 else 8) w) := (of_any b w hb hg).mono fun e w' h => h.retp
theorem pshift_v {v : Value} {d : Dyadic} {w : World} (k : Int) (h : PV w v d) (hf : Fitp d) (hg : Glob w) :
    Calls Tryz.prog 21 #[v, .int .i64 k] w (RetP (d * dy 1 (far k)) w) := by
  obtain ⟨A, n, c, A', n', c', rfl, h1, h2⟩ := h
  have := shift_any A n c (mant d) A' n' c' (expo d) k w h1 h2 (by rw [h1.1]; exact hf.1) hf.2 hg
  rw [← dy_one, dy_mant] at this
  exact this.mono fun e w' h => h.retp
theorem ptext_v {v : Value} {d : Dyadic} {w : World} (h : PV w v d) (hf : Fitp d) (hg : Glob w) :
    Calls Tryz.prog 11 #[v] w fun e w' => e = .returned (.string ⟨(txt d).toArray⟩) ∧ Below w.heap.size w w' := by
  obtain ⟨A, n, c, A', n', c', rfl, h1, h2⟩ := h
  exact dtext_any A n c (mant d) A' n' c' (expo d) w h1 h2 (by rw [h1.1]; exact hf.1) (Nat.lt_of_le_of_lt hf.2 (by decide)) d rfl rfl hg
theorem rtext_v {v : Value} {d : Dyadic} {w : World} {k : Nat} (h : DV w v d) (hs : Sz k d) (hk : k ≤ 8388600) :
    Calls Tryz.prog 12 #[v] w fun e w' => e = .returned (.string ⟨(txt d).toArray⟩) ∧ Below w.heap.size w w' := by
  obtain ⟨neg, A, n, c, E, l, rfl, h2, h3, rfl, h5, h6⟩ := h.parts (hs.fit (by omega))
  refine rtext_any neg A n c l E w h2 ?_ (by omega)
  obtain ⟨m, hm, hb⟩ := hs
  obtain ⟨r, hr⟩ : ∃ r : Nat, (r : Int) = (-(k : Int)) % 16 := ⟨((-(k : Int)) % 16).toNat, by omega⟩
  have e : rdy neg l E = dy (m * 2 ^ r) (16 * ((-(k : Int)) / 16)) := by rw [hm, dy_pow]; congr 1; omega
  have hb2 : (m * 2 ^ r).natAbs < 65536 ^ (2 * k + 1) := by
    rw [Int.natAbs_mul, Int.natAbs_pow, pow16]
    have h1 : 2 ^ r ≤ 2 ^ 16 := Nat.pow_le_pow_right (by omega) (by omega)
    have h2 : m.natAbs * 2 ^ r < 2 ^ (2 * k) * 2 ^ 16 := Nat.mul_lt_mul_of_lt_of_le hb h1 (Nat.pow_pos (by omega))
    rw [← Nat.pow_add] at h2
    exact Nat.lt_of_lt_of_le h2 (Nat.pow_le_pow_right (by omega) (by omega))
  rw [h2.1]
  rcases neat_in h3 h2.2.2.2.1 e hb2 with h7 | ⟨h7, h8⟩
  · subst h7; simp
  · omega
end Go.Proofs.YtbkbeglmfhaleaaGreatDoor
/-
Sums of numbers in parts: where a part's sum reaches, and that the parts' sums rise. Conditions: as each says.
-/
set_option linter.unusedVariables false
set_option linter.unusedSimpArgs false
namespace Go.Proofs.YtbkbeglmfhaleaaGreatDoor

/-- The sum of a list of numbers. -/
def dysum : List Dyadic → Dyadic
  | [] => 0
  | d :: l => d + dysum l
theorem dz_add (a : Dyadic) : 0 + a = a := by rw [← Dyadic.toRat_inj, Dyadic.toRat_add]; simp [Dyadic.toRat_zero, Rat.zero_add]
theorem add_dz (a : Dyadic) : a + 0 = a := by rw [← Dyadic.toRat_inj, Dyadic.toRat_add]; simp [Dyadic.toRat_zero, Rat.add_zero]
theorem dadd_assoc (a b c : Dyadic) : a + b + c = a + (b + c) := by
  rw [← Dyadic.toRat_inj]; simp only [Dyadic.toRat_add]; exact Rat.add_assoc _ _ _
theorem dadd_comm (a b : Dyadic) : a + b = b + a := by
  rw [← Dyadic.toRat_inj]; simp only [Dyadic.toRat_add]; exact Rat.add_comm _ _
theorem dysum_append (l m : List Dyadic) : dysum (l ++ m) = dysum l + dysum m := by
  induction l with
  | nil => simp [dysum, dz_add]
  | cons d l ih => simp [dysum, ih, dadd_assoc]
theorem dysum_perm {l m : List Dyadic} (h : l.Perm m) : dysum l = dysum m := by
  induction h with
  | nil => rfl
  | cons d _ ih => simp [dysum, ih]
  | swap a b l => simp only [dysum]; rw [← dadd_assoc, ← dadd_assoc, dadd_comm b a]
  | trans _ _ h1 h2 => exact h1.trans h2
theorem dysum_filter (p : Dyadic → Bool) (l : List Dyadic) (h : ∀ d ∈ l, p d = false → d = 0) : dysum (l.filter p) = dysum l := by
  induction l with
  | nil => rfl
  | cons d l ih =>
    have := ih fun x hx => h x (List.mem_cons_of_mem _ hx)
    rw [List.filter_cons]
    cases hp : p d with
    | true => simp [dysum, this]
    | false => simp [dysum, this, h d List.mem_cons_self hp, dz_add]
theorem dysum_flatten (L : List (List Dyadic)) : dysum L.flatten = dysum (L.map dysum) := by
  induction L with
  | nil => rfl
  | cons l L ih => simp [dysum, dysum_append, ih]

/-- The exponent of the first power of 2 that is greater than the number without its sign. -/
def fin (d : Dyadic) : Int := expo d + bl (mant d).natAbs
/-- A multiple of 2^e, below 2^(e+k). -/
def Bxd (e : Int) (k : Nat) (d : Dyadic) : Prop := ∃ m : Int, d = dy m e ∧ m.natAbs < 2 ^ k
theorem bxd_self {d : Dyadic} {e : Int} {k : Nat} (he : e ≤ expo d) (hf : fin d ≤ e + k) : Bxd e k d := by
  obtain ⟨t, ht⟩ : ∃ t : Nat, expo d = e + t := ⟨(expo d - e).toNat, by omega⟩
  refine ⟨mant d * 2 ^ t, ?_, ?_⟩
  · rw [dy_pow, ← ht, dy_mant]
  · by_cases h0 : (mant d).natAbs = 0
    · have : mant d = 0 := by omega
      rw [this]; simp [Nat.two_pow_pos]
    · have h1 := (bl_bounds h0).2
      have e2 : ((2 : Int) ^ t).natAbs = 2 ^ t := by rw [Int.natAbs_pow]; rfl
      unfold fin at hf
      rw [Int.natAbs_mul, e2]
      have h2 : (mant d).natAbs * 2 ^ t < 2 ^ bl (mant d).natAbs * 2 ^ t := Nat.mul_lt_mul_of_pos_right h1 (Nat.two_pow_pos _)
      rw [← Nat.pow_add] at h2
      exact Nat.lt_of_lt_of_le h2 (Nat.pow_le_pow_right (by omega) (by omega))
theorem bxd_parts {d : Dyadic} {e : Int} {k : Nat} (h : Bxd e k d) (h0 : d ≠ 0) : e ≤ expo d ∧ fin d ≤ e + k ∧ expo d < fin d := by
  obtain ⟨m, rfl, hm⟩ := h
  have hm0 : m ≠ 0 := fun h => h0 (by rw [h, dy_zero])
  obtain ⟨y, v, hz, hy, ha, hb, hc⟩ := odd_part m hm0
  obtain ⟨e1, e2⟩ := dy_parts (e := e) hz hy
  unfold fin
  rw [e1, e2]
  have hy0 : y.natAbs ≠ 0 := by omega
  have h1 := bl_bounds hy0
  have hb0 : 1 ≤ bl y.natAbs := by unfold bl; rw [if_neg hy0]; omega
  have h2 : 2 ^ (bl y.natAbs - 1) * 2 ^ v ≤ y.natAbs * 2 ^ v := Nat.mul_le_mul_right _ h1.1
  rw [← ha, ← Nat.pow_add] at h2
  have h3 : bl y.natAbs - 1 + v < k := by
    rcases Nat.lt_or_ge (bl y.natAbs - 1 + v) k with h | h
    · exact h
    · have := Nat.pow_le_pow_right (show 0 < 2 by omega) h; omega
  omega
theorem fin_zero : fin 0 = 0 := by unfold fin; rw [expo_zero, mant_zero]; rfl
/-- The sum of a list of numbers of a box. -/
theorem bxd_sum {e : Int} {k : Nat} (l : List Dyadic) (h : ∀ d ∈ l, Bxd e k d) : ∃ m : Int, dysum l = dy m e ∧ m.natAbs ≤ l.length * 2 ^ k := by
  induction l with
  | nil => exact ⟨0, by rw [dy_zero]; rfl, by simp⟩
  | cons d l ih =>
    obtain ⟨m, h1, h2⟩ := ih fun x hx => h x (List.mem_cons_of_mem _ hx)
    obtain ⟨n, h3, h4⟩ := h d List.mem_cons_self
    refine ⟨n + m, by simp only [dysum]; rw [h1, h3, dy_add], ?_⟩
    rw [List.length_cons, Nat.succ_mul]
    omega
theorem bxd_sum64 {e : Int} {k : Nat} (l : List Dyadic) (h : ∀ d ∈ l, Bxd e k d) (hl : l.length < 2 ^ 64) : Bxd e (k + 64) (dysum l) := by
  obtain ⟨m, h1, h2⟩ := bxd_sum l h
  refine ⟨m, h1, Nat.lt_of_le_of_lt h2 ?_⟩
  rw [Nat.pow_add, Nat.mul_comm]
  exact Nat.mul_lt_mul_of_pos_left hl (Nat.two_pow_pos _)

/-- All of the one part are far below all of the other. -/
def PApart (P Q : List Dyadic) : Prop := ∃ r : Int, (∀ d ∈ P, fin d + 64 ≤ r) ∧ ∀ d ∈ Q, r < expo d
/-- Exponents rise. -/
def Rising (l : List Dyadic) : Prop := l.Pairwise fun a b => expo a ≤ expo b
theorem expo_fin {d : Dyadic} (h : d ≠ 0) : expo d < fin d := by
  have h0 : (mant d).natAbs ≠ 0 := fun e => h ((mant_eq_zero d).1 (by omega))
  unfold fin bl; rw [if_neg h0]; omega
/-- The sums of two parts. -/
theorem apart_sums {P Q : List Dyadic} (h : PApart P Q) (hP : Rising P) (hQ : Rising Q) (hl : P.length < 2 ^ 64) (hl2 : Q.length < 2 ^ 64) (nP : ∀ d ∈ P, d ≠ 0) (h1 : dysum P ≠ 0) (h2 : dysum Q ≠ 0) :
    expo (dysum P) < expo (dysum Q) := by
  obtain ⟨r, hr1, hr2⟩ := h
  have a1 : expo (dysum P) < r := by
    cases P with
    | nil => exact absurd rfl h1
    | cons p P =>
      have hp := expo_fin (nP p List.mem_cons_self)
      have hp2 := hr1 p List.mem_cons_self
      obtain ⟨k, hk⟩ : ∃ k : Nat, r = expo p + (k + 64 : Nat) := ⟨(r - expo p - 64).toNat, by omega⟩
      have := bxd_parts (bxd_sum64 (e := expo p) (k := k) (p :: P) (fun d hd => bxd_self (by
        rcases List.mem_cons.1 hd with rfl | hd
        · exact Int.le_refl _
        · exact (List.pairwise_cons.1 hP).1 d hd) (by have := hr1 d hd; omega)) hl) h1
      omega
  have a2 : r < expo (dysum Q) := by
    cases Q with
    | nil => exact absurd rfl h2
    | cons q Q =>
      have hq := hr2 q List.mem_cons_self
      obtain ⟨k, hk⟩ : ∃ k : Nat, ∀ d ∈ q :: Q, fin d ≤ expo q + k := by
        clear hr2 hl2 h2 hQ
        generalize q :: Q = l
        induction l with
        | nil => exact ⟨0, fun _ h => by cases h⟩
        | cons a l ih =>
          obtain ⟨k, hk⟩ := ih
          refine ⟨k + (fin a - expo q).toNat, fun d hd => ?_⟩
          rcases List.mem_cons.1 hd with rfl | hd
          · omega
          · have := hk d hd; omega
      have := bxd_parts (bxd_sum64 (e := expo q) (k := k) (q :: Q) (fun d hd => bxd_self (by
        rcases List.mem_cons.1 hd with rfl | hd
        · exact Int.le_refl _
        · exact (List.pairwise_cons.1 hQ).1 d hd) (hk d hd)) hl2) h2
      omega
  omega
/-- The parts as they are so far: those that are cut off, and where the next begins. -/
def PartsTo (L : List Dyadic) (fr : Nat) (Ps : List (List Dyadic)) : Prop :=
  Ps.flatten = L.take fr ∧ Ps.Pairwise PApart ∧ ∀ P ∈ Ps, ∃ r : Int, (∀ d ∈ P, fin d + 64 ≤ r) ∧ ∀ d ∈ L.drop fr, r < expo d
theorem PartsTo.start (L : List Dyadic) : PartsTo L 0 [] := ⟨by simp, .nil, fun _ h => by cases h⟩
theorem PartsTo.cut {L : List Dyadic} {fr tt : Nat} {Ps : List (List Dyadic)} (h : PartsTo L fr Ps) (hf : fr ≤ tt) (r : Int) (h1 : ∀ d ∈ (L.drop fr).take (tt - fr), fin d + 64 ≤ r)
    (h2 : ∀ d ∈ L.drop tt, r < expo d) : PartsTo L tt (Ps ++ [(L.drop fr).take (tt - fr)]) := by
  obtain ⟨a, b, c⟩ := h
  have sub : ∀ d ∈ L.drop tt, d ∈ L.drop fr := fun d hd => by
    have : L.drop tt = (L.drop fr).drop (tt - fr) := by rw [List.drop_drop]; congr 1; omega
    rw [this] at hd
    exact List.mem_of_mem_drop hd
  refine ⟨?_, ?_, ?_⟩
  · rw [List.flatten_append, a]
    simp only [List.flatten_cons, List.flatten_nil, List.append_nil]
    rw [← List.take_add]; congr 1; omega
  · rw [List.pairwise_append]
    refine ⟨b, by simp, fun P hP Q hQ => ?_⟩
    simp only [List.mem_singleton] at hQ
    subst hQ
    obtain ⟨s, h3, h4⟩ := c P hP
    exact ⟨s, h3, fun d hd => h4 d (List.mem_of_mem_take hd)⟩
  · intro P hP
    rcases List.mem_append.1 hP with hP | hP
    · obtain ⟨s, h3, h4⟩ := c P hP
      exact ⟨s, h3, fun d hd => h4 d (sub d hd)⟩
    · simp only [List.mem_singleton] at hP
      subst hP
      exact ⟨r, h1, h2⟩
theorem PartsTo.done {L : List Dyadic} {fr : Nat} {Ps : List (List Dyadic)} (h : PartsTo L fr Ps) :
    (Ps ++ [L.drop fr]).flatten = L ∧ (Ps ++ [L.drop fr]).Pairwise PApart := by
  obtain ⟨a, b, c⟩ := h
  refine ⟨by rw [List.flatten_append, a]; simp, ?_⟩
  rw [List.pairwise_append]
  refine ⟨b, by simp, fun P hP Q hQ => ?_⟩
  simp only [List.mem_singleton] at hQ
  subst hQ
  exact c P hP
/-- The sums that aren't 0 rise, and their sum is the sum of all. -/
theorem parts_sums {L : List Dyadic} (Ps : List (List Dyadic)) (hF : Ps.flatten = L) (hA : Ps.Pairwise PApart) (hR : Rising L) (h0 : ∀ d ∈ L, d ≠ 0) (hl : L.length < 2 ^ 64) :
    Rising ((Ps.map dysum).filter (· != 0)) ∧ dysum ((Ps.map dysum).filter (· != 0)) = dysum L := by
  constructor
  · subst hF
    unfold Rising at *
    induction Ps with
    | nil => simp
    | cons P Ps ih =>
      rw [List.flatten_cons] at hR h0 hl
      rw [List.pairwise_append] at hR
      rw [List.length_append] at hl
      have hA' := List.pairwise_cons.1 hA
      have ih' := ih hA'.2 hR.2.1 (fun d hd => h0 d (List.mem_append.2 (.inr hd))) (by omega)
      rw [List.map_cons, List.filter_cons]
      split
      · rename_i hne
        rw [List.pairwise_cons]
        refine ⟨fun s hs => ?_, ih'⟩
        obtain ⟨h1, h2⟩ := List.mem_filter.1 hs
        obtain ⟨Q, hQ, rfl⟩ := List.mem_map.1 h1
        obtain ⟨u, v, rfl⟩ := List.append_of_mem hQ
        refine Int.le_of_lt (apart_sums (hA'.1 Q hQ) hR.1 ?_ (by omega) ?_ (fun d hd => h0 d (List.mem_append.2 (.inl hd))) (by simpa using hne) (by simpa using h2))
        · have := hR.2.1
          rw [List.flatten_append, List.pairwise_append, List.flatten_cons, List.pairwise_append] at this
          exact this.2.1.1
        · rw [List.flatten_append, List.flatten_cons] at hl
          simp only [List.length_append] at hl
          omega
      · exact ih'
  · rw [dysum_filter _ _ (fun d _ hd => by simpa using hd), ← dysum_flatten, hF]
end Go.Proofs.YtbkbeglmfhaleaaGreatDoor
/-
What the program's join adds up is the sum of the numbers. Conditions: as each says.
-/
set_option linter.unusedVariables false
namespace Go.Proofs.YtbkbeglmfhaleaaGreatDoor

/-- Where a number stands above the first one. -/
def pws (f : Int) (ds : List Dyadic) : List Nat := ds.map fun d => (expo d - f).toNat
def mts (ds : List Dyadic) : List Int := ds.map mant
theorem dysum_snoc (l : List Dyadic) (d : Dyadic) : dysum (l ++ [d]) = dysum l + d := by rw [dysum_append]; simp [dysum]
theorem join_tot_k (ds : List Dyadic) (f : Int) (h : ∀ d ∈ ds, f ≤ expo d) (k : Nat) (hk : k ≤ ds.length) : dy (tot (mts ds) (pws f ds) k) f = dysum (ds.take k) := by
  induction k with
  | zero => rw [show tot (mts ds) (pws f ds) 0 = 0 from rfl, dy_zero]; rfl
  | succ k ih =>
    have hk' : k < ds.length := by omega
    have e1 : (mts ds).getD k 0 = mant ds[k] := by unfold mts; simp [List.getD, hk']
    have e2 : (pws f ds).getD k 0 = (expo ds[k] - f).toNat := by unfold pws; simp [List.getD, hk']
    have e3 := h _ (List.getElem_mem hk')
    rw [List.take_succ_eq_append_getElem hk', dysum_snoc, ← ih (by omega)]
    simp only [tot]
    rw [e1, e2, ← dy_add, dy_pow]
    congr 1
    rw [show f + ((expo ds[k] - f).toNat : Int) = expo ds[k] by omega, dy_mant]
theorem join_tot (ds : List Dyadic) (f : Int) (h : ∀ d ∈ ds, f ≤ expo d) : dy (tot (mts ds) (pws f ds) ds.length) f = dysum ds := by
  rw [join_tot_k ds f h _ (Nat.le_refl _), List.take_length]
/-- What is a sum lies in few digits more. -/
theorem Sz.sum {k : Nat} (l : List Dyadic) (h : ∀ d ∈ l, Sz k d) (n : Nat) (hn : l.length ≤ n) : Sz (k + n) (dysum l) := by
  induction l generalizing n with
  | nil => exact Sz.zero _
  | cons d l ih =>
    obtain ⟨m, rfl⟩ : ∃ m, n = m + 1 := ⟨n - 1, by simp at hn; omega⟩
    have h1 := ih (fun x hx => h x (List.mem_cons_of_mem _ hx)) m (by simp at hn; omega)
    exact Sz.add (h d List.mem_cons_self) h1 (by omega) (by omega)
/-- The exponents of what is so large, and so fine. -/
theorem Sz.expo_ {k : Nat} {d : Dyadic} (h : Sz k d) : (expo d).natAbs ≤ k ∧ (fin d).natAbs ≤ k := by
  by_cases h0 : d = 0
  · subst h0; rw [expo_zero, fin_zero]; exact ⟨by simp, by simp⟩
  · obtain ⟨m, h1, h2⟩ := h
    have := bxd_parts ⟨m, h1, h2⟩ h0
    omega
end Go.Proofs.YtbkbeglmfhaleaaGreatDoor
/-
A world that has grown, by draws and new blocks. Conditions: none.
-/
set_option linter.unusedVariables false
namespace Go.Proofs.YtbkbeglmfhaleaaGreatDoor
open Go.RowKit Go.Sort

/-- Nothing but new blocks and draws. -/
def Grw (w w' : World) : Prop := Below w.heap.size w w' ∧ w.drawn ≤ w'.drawn
theorem Grw.refl (w : World) : Grw w w := ⟨Below.refl _ _, Nat.le_refl _⟩
theorem Grw.trans {a b c : World} (h : Grw a b) (k : Grw b c) : Grw a c := ⟨h.1.trans (k.1.mono h.1.size), Nat.le_trans h.2 k.2⟩
theorem Grw.alloc {a b : World} (h : Grw a b) (o : Obj) : Grw a (b.alloc o) := ⟨h.1.alloc h.1.size _, h.2⟩
theorem Grw.drew {a b : World} (h : Grw a b) : Grw a b.drew := ⟨h.1.drew, Nat.le_succ_of_le h.2⟩
theorem Grw.drewN {a b : World} (h : Grw a b) (n : Nat) : Grw a (b.drewN n) := ⟨below_drewN h.1 n, Nat.le_trans h.2 (Nat.le_add_right _ _)⟩
theorem Grw.form {w w' : World} (h : Grw w w') : ∃ q os, w' = grow (w.drewN q) os := by
  refine ⟨w'.drawn - w.drawn, w'.heap.extract w.heap.size w'.heap.size, ?_⟩
  obtain ⟨⟨h1, h2, h3, h4, h5⟩, h6⟩ := h
  have hh : w'.heap = w.heap ++ w'.heap.extract w.heap.size w'.heap.size := by
    refine Array.ext_getElem? fun i => ?_
    rcases Nat.lt_or_ge i w.heap.size with hl | hl
    · rw [Array.getElem?_append_left hl]; exact h5 i hl
    · rw [Array.getElem?_append_right hl, Array.getElem?_extract]
      split
      · congr 1; omega
      · exact Array.getElem?_eq_none (by omega)
  have hd : w'.drawn = w.drawn + (w'.drawn - w.drawn) := by omega
  cases w' with
  | mk heap tape drawn os output =>
    cases w with
    | mk heap0 tape0 drawn0 os0 output0 =>
      simp only [grow, World.drewN] at *
      subst h1 h2 h3
      congr 1
end Go.Proofs.YtbkbeglmfhaleaaGreatDoor
/-
The program's lists of numbers, as they lie in memory. Conditions: as each says.
-/
set_option linter.unusedVariables false
namespace Go.Proofs.YtbkbeglmfhaleaaGreatDoor
open Go.RowKit

/-- A number as it lies: its two wholes' lists, and what it is. -/
structure D4 where
  A : Option Addr
  n : Nat
  c : Nat
  A' : Option Addr
  n' : Nat
  c' : Nat
  d : Dyadic
instance : Inhabited D4 := ⟨⟨none, 0, 0, none, 0, 0, 0⟩⟩
def D4.cells (x : D4) : List Value := [.bool (ng (mant x.d)), .slice x.A x.n x.c, .bool (ng (expo x.d)), .slice x.A' x.n' x.c']
def D4.val (x : D4) : Value := .agg #[.bool (ng (mant x.d)), .slice x.A x.n x.c, .bool (ng (expo x.d)), .slice x.A' x.n' x.c']
def D4.ok (w : World) (x : D4) : Prop := Dr w x.A x.n x.c x.A' x.n' x.c' x.d
theorem D4.ok.below {w w' : World} {x : D4} (h : x.ok w) (hb : Below w.heap.size w w') : x.ok w' := Dr.below h hb
theorem D4.ok.pv {w : World} {x : D4} (h : x.ok w) : PV w x.val x.d := ⟨_, _, _, _, _, _, rfl, h⟩
theorem PV.d4 {w : World} {v : Value} {d : Dyadic} (h : PV w v d) : ∃ x : D4, x.ok w ∧ v = x.val ∧ x.d = d := by
  obtain ⟨A, n, c, A', n', c', h1, h2⟩ := h
  exact ⟨⟨A, n, c, A', n', c', d⟩, h2, h1, rfl⟩
theorem D4.zero_ok (w : World) (c c' : Nat) : D4.ok w ⟨none, 0, c, none, 0, c', 0⟩ := ⟨Wh.zero _ _ _, Wh.zero _ _ _⟩
theorem D4.cells_len (x : D4) : x.cells.length = 4 := rfl
theorem D4.cells_one (x : D4) : ∀ v ∈ x.cells, v.oneCell' = true := by
  intro v hv
  simp only [D4.cells, List.mem_cons, List.not_mem_nil, or_false] at hv
  rcases hv with rfl | rfl | rfl | rfl <;> rfl
/-- The cells of a list of numbers. -/
def d4s (l : List D4) : List Value := l.flatMap D4.cells
theorem d4s_nil : d4s [] = [] := rfl
theorem d4s_append (l m : List D4) : d4s (l ++ m) = d4s l ++ d4s m := by unfold d4s; rw [List.flatMap_append]
theorem d4s_one (x : D4) : d4s [x] = x.cells := by unfold d4s; simp
theorem d4s_length (l : List D4) : (d4s l).length = l.length * 4 := by
  induction l with
  | nil => rfl
  | cons x l ih => show (x.cells ++ d4s l).length = _; rw [List.length_append, ih, D4.cells_len, List.length_cons]; omega
theorem d4s_get (l : List D4) (i j : Nat) (hi : i < l.length) (hj : j < 4) : (d4s l)[i * 4 + j]? = l[i].cells[j]? := by
  induction l generalizing i with
  | nil => simp at hi
  | cons x l ih =>
    show (x.cells ++ d4s l)[i * 4 + j]? = _
    cases i with
    | zero => rw [List.getElem?_append_left (by rw [D4.cells_len]; omega)]; simp
    | succ i =>
      rw [List.getElem?_append_right (by rw [D4.cells_len]; omega), D4.cells_len, show (i + 1) * 4 + j - 4 = i * 4 + j by omega, ih i (by simpa using hi)]
      simp
theorem d4s_drop (l : List D4) (k : Nat) (hk : k ≤ l.length) : d4s (l.drop k) = (d4s l).drop (k * 4) := by
  have e : d4s l = d4s (l.take k) ++ d4s (l.drop k) := by rw [← d4s_append, List.take_append_drop]
  have hl : (d4s (l.take k)).length = k * 4 := by rw [d4s_length, List.length_take]; omega
  rw [e, List.drop_left' hl]
theorem d4s_take (l : List D4) (k : Nat) (hk : k ≤ l.length) : d4s (l.take k) = (d4s l).take (k * 4) := by
  have e : d4s l = d4s (l.take k) ++ d4s (l.drop k) := by rw [← d4s_append, List.take_append_drop]
  have hl : (d4s (l.take k)).length = k * 4 := by rw [d4s_length, List.length_take]; omega
  rw [e, List.take_left' hl]
/-- Numbers lie so, one behind the other. -/
def Dl (w : World) (A : Option Addr) (l : List D4) : Prop := Row w A (d4s l)
theorem Dl.below {w w' : World} {A : Option Addr} {l : List D4} (h : Dl w A l) (hb : Below w.heap.size w w') : Dl w' A l := Row.below h hb
theorem Dl.at_ {w : World} {A : Option Addr} {l : List D4} (h : Dl w A l) {i : Nat} (hi : i < l.length) :
    ∃ b o, A = some ⟨b, o, none⟩ ∧ b < w.heap.size ∧ w.cell? ⟨b, o + i * 4, none⟩ = some (.bool (ng (mant l[i].d))) ∧ w.cell? ⟨b, o + i * 4 + 1, none⟩ = some (.slice l[i].A l[i].n l[i].c) ∧
      w.cell? ⟨b, o + i * 4 + 2, none⟩ = some (.bool (ng (expo l[i].d))) ∧ w.cell? ⟨b, o + i * 4 + 3, none⟩ = some (.slice l[i].A' l[i].n' l[i].c') := by
  have g : ∀ j, j < 4 → (d4s l)[i * 4 + j]? = l[i].cells[j]? := fun j hj => d4s_get l i j hi hj
  rcases h with h | ⟨b, o, e, hc⟩
  · have := d4s_length l
    rw [h] at this
    simp only [List.length_nil] at this
    omega
  · have c0 := hc (i * 4) (.bool (ng (mant l[i].d))) (by have := g 0 (by omega); rw [Nat.add_zero] at this; rw [this]; rfl)
    refine ⟨b, o, e, block_lt c0, c0, ?_, ?_, ?_⟩
    · exact hc (i * 4 + 1) _ (by rw [g 1 (by omega)]; rfl)
    · exact hc (i * 4 + 2) _ (by rw [g 2 (by omega)]; rfl)
    · exact hc (i * 4 + 3) _ (by rw [g 3 (by omega)]; rfl)
/-- All of the list hold their numbers. -/
def Oks (w : World) (l : List D4) : Prop := ∀ x ∈ l, x.ok w
theorem Oks.below {w w' : World} {l : List D4} (h : Oks w l) (hb : Below w.heap.size w w') : Oks w' l := fun x hx => (h x hx).below hb
def dds (l : List D4) : List Dyadic := l.map (·.d)
end Go.Proofs.YtbkbeglmfhaleaaGreatDoor
/-
The program's wholes as values; a box that holds a number. Conditions: none.
-/
set_option linter.unusedVariables false
namespace Go.Proofs.YtbkbeglmfhaleaaGreatDoor
open Go.RowKit

/-- The value holds the whole number. -/
def WV (W : World) (v : Value) (z : Int) : Prop := ∃ (A : Option Addr) (n c : Nat), v = .agg #[.bool (ng z), .slice A n c] ∧ Wh W A n c z
theorem WV.below {W W' : World} {v : Value} {z : Int} (h : WV W v z) (hb : Below W.heap.size W W') : WV W' v z := by
  obtain ⟨A, n, c, h1, h2⟩ := h
  exact ⟨A, n, c, h1, h2.below hb⟩
theorem WV.store4 {W : World} {v : Value} {z : Int} (h : WV W v z) {g : Nat} {t : TypeId} {a a' : Bool} {A' A'' : Option Addr} {n' c' n'' c'' : Nat} (hB : Blk W g t #[.bool a, .slice A' n' c', .bool a', .slice A'' n'' c'']) (u v' x y : Value) :
    WV ((((W.setCell ⟨g, 0, none⟩ u).setCell ⟨g, 1, none⟩ v').setCell ⟨g, 2, none⟩ x).setCell ⟨g, 3, none⟩ y) v z := by
  obtain ⟨A, n, c, h1, h2⟩ := h
  exact ⟨A, n, c, h1, h2.store4 hB _ _ _ _⟩
theorem PV.store4 {W : World} {v : Value} {d : Dyadic} (h : PV W v d) {g : Nat} {t : TypeId} {a a' : Bool} {A' A'' : Option Addr} {n' c' n'' c'' : Nat} (hB : Blk W g t #[.bool a, .slice A' n' c', .bool a', .slice A'' n'' c'']) (u v' x y : Value) :
    PV ((((W.setCell ⟨g, 0, none⟩ u).setCell ⟨g, 1, none⟩ v').setCell ⟨g, 2, none⟩ x).setCell ⟨g, 3, none⟩ y) v d := by
  obtain ⟨A, n, c, A1, n1, c1, h1, h2, h3⟩ := h
  exact ⟨A, n, c, A1, n1, c1, h1, h2.store4 hB _ _ _ _, h3.store4 hB _ _ _ _⟩
/-- The box holds the number. -/
def PBx (W : World) (g : Nat) (d : Dyadic) : Prop := ∃ p : D4, p.d = d ∧ p.ok W ∧ Blk W g 37 p.cells.toArray
theorem pbx_store {W : World} {g : Nat} {a a' : Bool} {A A' A1 A2 : Option Addr} {n c n' c' n1 c1 n2 c2 : Nat} {d : Dyadic} (hB : Blk W g 37 #[.bool a, .slice A1 n1 c1, .bool a', .slice A2 n2 c2]) (hD : Dr W A n c A' n' c' d) :
    PBx ((((W.setCell ⟨g, 0, none⟩ (.bool (ng (mant d)))).setCell ⟨g, 1, none⟩ (.slice A n c)).setCell ⟨g, 2, none⟩ (.bool (ng (expo d)))).setCell ⟨g, 3, none⟩ (.slice A' n' c')) g d :=
  ⟨⟨A, n, c, A', n', c', d⟩, rfl, ⟨Wh.store4 hD.1 hB _ _ _ _, Wh.store4 hD.2 hB _ _ _ _⟩, Blk.store4 hB _ _ _ _⟩
theorem below_np {V W W' : World} (h : Below V.heap.size V W) (hb : Below W.heap.size W W') : Below V.heap.size V W' := h.trans (hb.mono h.size)
theorem pv_build {W : World} {v : Value} {d : Dyadic} {A A' : Option Addr} {n c n' c' : Nat} (h : v = .agg #[.bool (ng (mant d)), .slice A n c, .bool (ng (expo d)), .slice A' n' c']) (h1 : Wh W A n c (mant d)) (h2 : Wh W A' n' c' (expo d)) : PV W v d :=
  ⟨A, n, c, A', n', c', h, h1, h2⟩
end Go.Proofs.YtbkbeglmfhaleaaGreatDoor
/-
The program's Sign, Neg, Abs, end. Conditions: as each says.
-/
set_option linter.unusedVariables false
set_option linter.unusedSimpArgs false
namespace Go.Proofs.YtbkbeglmfhaleaaGreatDoor
open Go.RowKit
attribute [local go_sem ↓] Go.wp_at_zero Go.wp_at_succ

theorem psign_v {v : Value} {d : Dyadic} {w : World} (h : PV w v d) : Calls Tryz.prog 26 #[v] w fun e w' => e = .returned (.int .i64 (mant d).sign) ∧ Below w.heap.size w w' := by
  obtain ⟨A, n, c, A', n', c', rfl, h1, h2⟩ := h
  have H := Lib.hid h1.1
  clear h1 h2
  go_enter Tryz.func26, Tryz.ntmps26
  go_wp2_with fail
  refine (sign_any A n c (mant d) _ H.out).mono ?_
  rintro e w1 ⟨rfl, hb⟩
  have HB := Lib.hid (((Below.refl w.heap.size w).alloc (Nat.le_refl _) _).trans (hb.mono (by simp)))
  clear hb
  go_wp2_with fail
  go_ret
  exact ⟨rfl, HB.out⟩
set_option maxHeartbeats 1000000 in
theorem pneg_v {v : Value} {d : Dyadic} {w : World} (h : PV w v d) : Calls Tryz.prog 15 #[v] w (RetP (-d) w) := by
  obtain ⟨A, n, c, A', n', c', rfl, h1, h2⟩ := h
  have H1 := Lib.hid h1
  have H2 := Lib.hid h2
  have HN := Lib.hid h1.1
  clear h1 h2
  go_enter Tryz.func15, Tryz.ntmps15
  go_wp2_with fail
  have hB := (Blk.new w 37 #[.bool (ng (mant d)), .slice A n c, .bool (ng (expo d)), .slice A' n' c']).alloc (.cells #[.bool false, .slice none 0 0, .bool false, .slice none 0 0] 37)
  have hBr := Blk.new_ (w.alloc (.cells #[.bool (ng (mant d)), .slice A n c, .bool (ng (expo d)), .slice A' n' c'] 37)) 37 #[.bool false, .slice none 0 0, .bool false, .slice none 0 0] (w.heap.size + 1) (by simp)
  have hbl := ((Below.refl w.heap.size w).alloc (Nat.le_refl _) (.cells #[.bool (ng (mant d)), .slice A n c, .bool (ng (expo d)), .slice A' n' c'] 37)).alloc (by simp) (.cells #[.bool false, .slice none 0 0, .bool false, .slice none 0 0] 37)
  have hsz : ((w.alloc (.cells #[.bool (ng (mant d)), .slice A n c, .bool (ng (expo d)), .slice A' n' c'] 37)).alloc (.cells #[.bool false, .slice none 0 0, .bool false, .slice none 0 0] 37)).heap.size = w.heap.size + 1 + 1 := by simp
  generalize (w.alloc (.cells #[.bool (ng (mant d)), .slice A n c, .bool (ng (expo d)), .slice A' n' c'] 37)).alloc (.cells #[.bool false, .slice none 0 0, .bool false, .slice none 0 0] 37) = W at *
  obtain ⟨c0, c1, c2, c3, _⟩ := cells4 hB
  have HB := Lib.hid hB
  have HBr := Lib.hid hBr
  have HBl := Lib.hid hbl
  clear hB hBr hbl
  go_region_held3 (fun w' => w'.cell? ⟨w.heap.size, 0, none⟩ = some (.bool (ng (mant d))) ∧ w'.cell? ⟨w.heap.size, 1, none⟩ = some (.slice A n c) ∧ w'.cell? ⟨w.heap.size, 2, none⟩ = some (.bool (ng (expo d))) ∧ w'.cell? ⟨w.heap.size, 3, none⟩ = some (.slice A' n' c') ∧ Below w.heap.size w w')
    (first | exact ⟨c0, c1, c2, c3, HBl.out.drew⟩ | exact held4c ‹_ ∧ _ ∧ _ ∧ _ ∧ Below w.heap.size w _› hbM | exact held4s ‹_ ∧ _ ∧ _ ∧ _ ∧ Below w.heap.size w _› _ (by omega) (by omega) (by omega) (by omega) (by omega) _ _ _ _)
    ((go_at_call 46; refine (minus_any A n c (mant d) _ HN.out).mono ?_; rintro e1 wM ⟨rfl, hbM⟩; have hBO := Blk.next HBr.out.drew hbM; obtain ⟨r0, r1, r2, r3, f0, f1, f2, f3⟩ := cells4 hBO; skip))
  go_wp2_with fail
  have hbw := (‹_ ∧ _ ∧ _ ∧ _ ∧ Below w.heap.size w _›).2.2.2.2
  clear r0 r1 r2 r3 f0 f1 f2 f3
  obtain ⟨k0, k1, k2, k3, _⟩ := cells4 (Blk.store4 hBO (.bool (ng (-mant d))) (.slice A n c) (.bool (ng (expo d))) (.slice A' n' c'))
  have hD : Dr wM A n c A' n' c' (-d) := by
    have hbx := HBl.out.drew.trans (hbM.mono (by simp; omega))
    exact ⟨by rw [mant_neg]; exact (H1.out.below hbx).neg, by rw [expo_neg]; exact H2.out.below hbx⟩
  exact bodyPost_ret (v := .agg #[.bool (ng (-mant d)), .slice A n c, .bool (ng (expo d)), .slice A' n' c']) (by simp [results, Tryz.results15, go_sem, k0, k1, k2, k3]) rfl
    (RetD.retp (RetD_def _ _ _ _ _ _ _ _ _ _ _ _ _ (mant_neg d) (expo_neg d) rfl rfl (Wh.store4 (by have := hD.1; rw [mant_neg] at this; exact this) hBO _ _ _ _) (Wh.store4 (by have := hD.2; rw [expo_neg] at this; exact this) hBO _ _ _ _) hbw))
end Go.Proofs.YtbkbeglmfhaleaaGreatDoor
/-
Whole numbers of one word: cmp. Conditions: as each says.
-/
set_option linter.unusedVariables false
namespace Go.Proofs.YtbkbeglmfhaleaaGreatDoor
open Go.RowKit
attribute [local go_sem ↓] Go.wp_at_zero Go.wp_at_succ

theorem sign_grw (A : Option Addr) (n c : Nat) (z : Int) (w : World) (hn : n = wl z) :
    Calls Tryz.prog 65 #[.agg #[.bool (ng z), .slice A n c]] w fun e w' => e = .returned (.int .i64 z.sign) ∧ Grw w w' := by
  have HN := Lib.hid hn
  clear hn
  go_enter Tryz.func65, Tryz.ntmps65
  go_wp2
  all_goals
    go_ret
    exact ⟨ret_i (sign_val HN.out (by simp_all)), (Grw.refl _).alloc _⟩
theorem isnan_u (x : Nat) (w : World) : Calls Tryz.prog 116 #[.int .u64 x] w fun e w' => e = .returned (.bool false) ∧ w' = w := by
  go_enter Tryz.func116, Tryz.ntmps116
  go_wp2
  go_ret
  exact ⟨by simp, rfl⟩
theorem cmp_u (x y : Nat) (w : World) : Calls Tryz.prog 94 #[.int .u64 x, .int .u64 y] w fun e w' => e = .returned (.int .i64 (Lib.compareInt x y)) ∧ w' = w := by
  go_enter Tryz.func94, Tryz.ntmps94
  go_wp2_with (go_at_call 116; refine (isnan_u _ _).mono ?_; rintro e w' ⟨rfl, hw⟩; rw [hw])
  all_goals (go_ret; refine ⟨?_, rfl⟩; unfold Lib.compareInt; (repeat' split) <;> first | rfl | (exfalso; omega))
theorem cmp_same (x : Int) : Lib.compareInt x x = 0 := by unfold Lib.compareInt; simp
theorem cmp_sign (x y : Int) (h : x.sign ≠ y.sign) : Lib.compareInt x.sign y.sign = Lib.compareInt x y ∧ (Lib.compareInt x y = 1 ∨ Lib.compareInt x y = -1) := by
  unfold Lib.compareInt
  rcases Int.lt_trichotomy x 0 with hx | hx | hx <;> rcases Int.lt_trichotomy y 0 with hy | hy | hy <;>
    first
    | (subst hx; subst hy; exact absurd rfl h)
    | (rw [Int.sign_eq_neg_one_of_neg hx, Int.sign_eq_neg_one_of_neg hy] at h; exact absurd rfl h)
    | (rw [Int.sign_eq_one_of_pos hx, Int.sign_eq_one_of_pos hy] at h; exact absurd rfl h)
    | skip
  · subst hy; rw [Int.sign_eq_neg_one_of_neg hx]; simp [hx]
  · rw [Int.sign_eq_neg_one_of_neg hx, Int.sign_eq_one_of_pos hy, if_pos (by omega), if_pos (by omega)]; simp
  · subst hx; rw [Int.sign_eq_neg_one_of_neg hy, if_neg (by simp), if_pos (by simp), if_neg (by omega), if_pos (by omega)]; simp
  · subst hx; rw [Int.sign_eq_one_of_pos hy, if_pos (by simp), if_pos (by omega)]; simp
  · rw [Int.sign_eq_one_of_pos hx, Int.sign_eq_neg_one_of_neg hy, if_neg (by omega), if_pos (by omega), if_neg (by omega), if_pos (by omega)]; simp
  · subst hy; rw [Int.sign_eq_one_of_pos hx, if_neg (by simp), if_pos (by simp), if_neg (by omega), if_pos (by omega)]; simp
theorem cmp_word (x y : Int) (h : x.sign = y.sign) (h0 : x ≠ 0) : wrap64 (x.sign * Lib.compareInt (x.natAbs : Int) (y.natAbs : Int)) = Lib.compareInt x y ∧ (x.natAbs = y.natAbs → Lib.compareInt x y = 0) ∧
    (x.natAbs ≠ y.natAbs → (Lib.compareInt (x.natAbs : Int) (y.natAbs : Int) == 0) = false) := by
  unfold Lib.compareInt
  have hy0 : y ≠ 0 := fun e => by subst e; exact h0 (Int.sign_eq_zero_iff_zero.1 h)
  rcases Int.lt_trichotomy x 0 with hx | hx | hx
  · rw [Int.sign_eq_neg_one_of_neg hx] at h ⊢
    have hy : y < 0 := Int.sign_eq_neg_one_iff_neg.1 h.symm
    refine ⟨?_, fun e => by rw [if_neg (by omega), if_neg (by omega)], fun e => by split <;> (try split) <;> first | rfl | omega⟩
    rcases Int.lt_trichotomy x y with hl | hl | hl
    · rw [if_neg (by omega), if_pos (by omega), if_pos hl]; unfold wrap64; omega
    · rw [if_neg (by omega), if_neg (by omega), if_neg (by omega), if_neg (by omega)]; unfold wrap64; omega
    · rw [if_pos (by omega), if_neg (by omega), if_pos (by omega)]; unfold wrap64; omega
  · exact absurd hx h0
  · rw [Int.sign_eq_one_of_pos hx] at h ⊢
    have hy : 0 < y := Int.sign_eq_one_iff_pos.1 h.symm
    refine ⟨?_, fun e => by rw [if_neg (by omega), if_neg (by omega)], fun e => by split <;> (try split) <;> first | rfl | omega⟩
    rcases Int.lt_trichotomy x y with hl | hl | hl
    · rw [if_pos (by omega), if_pos hl]; unfold wrap64; omega
    · rw [if_neg (by omega), if_neg (by omega), if_neg (by omega), if_neg (by omega)]; unfold wrap64; omega
    · rw [if_neg (by omega), if_pos (by omega), if_neg (by omega), if_pos (by omega)]; unfold wrap64; omega
/-- The one word of a number that isn't 0. -/
theorem one_dig {z : Int} (h0 : z ≠ 0) (h : z.natAbs < Q) : dig z = [z.natAbs] := by
  unfold dig
  rw [digs_pos Q_two (by omega), Nat.mod_eq_of_lt h, Nat.div_eq_of_lt h, digs_zero]
theorem one_wl {z : Int} (h0 : z ≠ 0) (h : z.natAbs < Q) : wl z = 1 := by unfold wl; rw [one_dig h0 h]; rfl
end Go.Proofs.YtbkbeglmfhaleaaGreatDoor
/-
The program's Abs, end, clamp. Conditions: as each says.
-/
set_option linter.unusedVariables false
set_option linter.unusedSimpArgs false
namespace Go.Proofs.YtbkbeglmfhaleaaGreatDoor
open Go.RowKit
attribute [local go_sem ↓] Go.wp_at_zero Go.wp_at_succ

theorem dabs_neg {d : Dyadic} (h : mant d < 0) : dabs d = -d := by
  conv => lhs; rw [← dy_mant d, dabs_dy]
  conv => rhs; rw [← dy_mant d, dy_neg]
  congr 1; omega
theorem dabs_pos {d : Dyadic} (h : ¬ mant d < 0) : dabs d = d := by
  conv => lhs; rw [← dy_mant d, dabs_dy]
  conv => rhs; rw [← dy_mant d]
  congr 1; omega
theorem pabs_v {v : Value} {d : Dyadic} {w : World} (h : PV w v d) : Calls Tryz.prog 17 #[v] w (RetP (dabs d) w) := by
  obtain ⟨A, n, c, A', n', c', rfl, h1, h2⟩ := h
  have HD := Lib.hid (show Dr w A n c A' n' c' d from ⟨h1, h2⟩)
  clear h1 h2
  by_cases hs : mant d < 0
  · have he : (mant d).sign < 0 := by rw [Int.sign_eq_neg_one_of_neg hs]; decide
    have HV := Lib.hid (dabs_neg hs)
    clear hs
    have hsg := fun W (hb : Below w.heap.size w W) => psign_v (w := W) ⟨A, n, c, A', n', c', rfl, HD.out.below hb⟩
    generalize (mant d).sign = s at *
    have HSg := Lib.hid hsg
    clear hsg
    go_enter Tryz.func17, Tryz.ntmps17
    go_wp2_with fail
    have hbl := ((Below.refl w.heap.size w).alloc (Nat.le_refl _) (.cells #[.bool (ng (mant d)), .slice A n c, .bool (ng (expo d)), .slice A' n' c'] 37)).alloc (by simp) (.cells #[.bool false, .slice none 0 0, .bool false, .slice none 0 0] 37)
    refine (HSg.out _ hbl).mono ?_
    rintro e w1 ⟨rfl, hb⟩
    have hB := ((Blk.new w 37 #[.bool (ng (mant d)), .slice A n c, .bool (ng (expo d)), .slice A' n' c']).alloc (.cells #[.bool false, .slice none 0 0, .bool false, .slice none 0 0] 37)).next hb
    have hBr := (Blk.new_ (w.alloc (.cells #[.bool (ng (mant d)), .slice A n c, .bool (ng (expo d)), .slice A' n' c'] 37)) 37 #[.bool false, .slice none 0 0, .bool false, .slice none 0 0] (w.heap.size + 1) (by simp)).next hb
    have HBr := Lib.hid hBr
    have HBl := Lib.hid (hbl.trans (hb.mono (by simp; omega)))
    obtain ⟨c0, c1, c2, c3, _⟩ := cells4 hB
    clear hB hBr hbl hb
    go_wp2_with fail
    refine (pneg_v (w := w1) ⟨A, n, c, A', n', c', rfl, HD.out.below HBl.out⟩).mono ?_
    rintro e w2 ⟨v, rfl, ⟨A1, n1, c1', A2, n2, c2', rfl, hD⟩, hb⟩
    have hBO := Blk.next HBr.out hb
    have HBl2 := Lib.hid (HBl.out.trans (hb.mono HBl.out.size))
    obtain ⟨r0, r1, r2, r3, f0, f1, f2, f3⟩ := cells4 hBO
    have HBO := Lib.hid hBO
    have HD2 := Lib.hid hD
    clear hBO hD hb c0 c1 c2 c3
    go_wp2_with fail
    clear r0 r1 r2 r3 f0 f1 f2 f3
    obtain ⟨k0, k1, k2, k3, _⟩ := cells4 (Blk.store4 HBO.out (.bool (ng (mant (-d)))) (.slice A1 n1 c1') (.bool (ng (expo (-d)))) (.slice A2 n2 c2'))
    rw [HV.out]
    exact bodyPost_ret (v := .agg #[.bool (ng (mant (-d))), .slice A1 n1 c1', .bool (ng (expo (-d))), .slice A2 n2 c2']) (by simp [results, Tryz.results17, go_sem, k0, k1, k2, k3]) rfl
      (RetD.retp (RetD_def _ _ _ _ _ _ _ _ _ _ _ _ _ rfl rfl rfl rfl (Wh.store4 HD2.out.1 HBO.out _ _ _ _) (Wh.store4 HD2.out.2 HBO.out _ _ _ _) ((((HBl2.out.setCell (by simp <;> omega) _).setCell (by simp <;> omega) _).setCell (by simp <;> omega) _).setCell (by simp <;> omega) _)))
  · have he : ¬ (mant d).sign < 0 := fun h => hs (Int.sign_neg_iff.1 h)
    have HV := Lib.hid (dabs_pos hs)
    clear hs
    have hsg := fun W (hb : Below w.heap.size w W) => psign_v (w := W) ⟨A, n, c, A', n', c', rfl, HD.out.below hb⟩
    generalize (mant d).sign = s at *
    have HSg := Lib.hid hsg
    clear hsg
    go_enter Tryz.func17, Tryz.ntmps17
    go_wp2_with fail
    have hbl := ((Below.refl w.heap.size w).alloc (Nat.le_refl _) (.cells #[.bool (ng (mant d)), .slice A n c, .bool (ng (expo d)), .slice A' n' c'] 37)).alloc (by simp) (.cells #[.bool false, .slice none 0 0, .bool false, .slice none 0 0] 37)
    refine (HSg.out _ hbl).mono ?_
    rintro e w1 ⟨rfl, hb⟩
    have hB := ((Blk.new w 37 #[.bool (ng (mant d)), .slice A n c, .bool (ng (expo d)), .slice A' n' c']).alloc (.cells #[.bool false, .slice none 0 0, .bool false, .slice none 0 0] 37)).next hb
    have hBr := (Blk.new_ (w.alloc (.cells #[.bool (ng (mant d)), .slice A n c, .bool (ng (expo d)), .slice A' n' c'] 37)) 37 #[.bool false, .slice none 0 0, .bool false, .slice none 0 0] (w.heap.size + 1) (by simp)).next hb
    have HBl := Lib.hid (hbl.trans (hb.mono (by simp; omega)))
    obtain ⟨c0, c1, c2, c3, _⟩ := cells4 hB
    obtain ⟨r0, r1, r2, r3, f0, f1, f2, f3⟩ := cells4 hBr
    have HBO := Lib.hid hBr
    clear hB hBr hbl hb
    go_wp2_with fail
    clear r0 r1 r2 r3 f0 f1 f2 f3
    obtain ⟨k0, k1, k2, k3, _⟩ := cells4 (Blk.store4 HBO.out (.bool (ng (mant d))) (.slice A n c) (.bool (ng (expo d))) (.slice A' n' c'))
    rw [HV.out]
    have hD := HD.out.below HBl.out
    exact bodyPost_ret (v := .agg #[.bool (ng (mant d)), .slice A n c, .bool (ng (expo d)), .slice A' n' c']) (by simp [results, Tryz.results17, go_sem, k0, k1, k2, k3]) rfl
      (RetD.retp (RetD_def _ _ _ _ _ _ _ _ _ _ _ _ _ rfl rfl rfl rfl (Wh.store4 hD.1 HBO.out _ _ _ _) (Wh.store4 hD.2 HBO.out _ _ _ _) ((((HBl.out.setCell (by simp <;> omega) _).setCell (by simp <;> omega) _).setCell (by simp <;> omega) _).setCell (by simp <;> omega) _)))
end Go.Proofs.YtbkbeglmfhaleaaGreatDoor
/-
Whole numbers of one word: cmp. Conditions: as it says.
-/
set_option linter.unusedVariables false
namespace Go.Proofs.YtbkbeglmfhaleaaGreatDoor
open Go.RowKit
attribute [local go_sem ↓] Go.wp_at_zero Go.wp_at_succ

/-- Both signs differ. -/
theorem cmp_apart (A : Option Addr) (n c : Nat) (x : Int) (A' : Option Addr) (n' c' : Nat) (y : Int) (w : World) (hn : n = wl x) (hn' : n' = wl y) (hs : x.sign ≠ y.sign) :
    Calls Tryz.prog 67 #[.agg #[.bool (ng x), .slice A n c], .agg #[.bool (ng y), .slice A' n' c']] w fun e w' => e = .returned (.int .i64 (Lib.compareInt x y)) ∧ Grw w w' := by
  obtain ⟨e1, e2⟩ := cmp_sign x y hs
  have e3 : (Lib.compareInt x y == 0) = false := by rcases e2 with h | h <;> rw [h] <;> rfl
  have hcmp := fun W => Tryz.cmp_Compare_int x.sign y.sign W
  rw [e1] at hcmp
  have HN := Lib.hid hn
  have HN' := Lib.hid hn'
  clear hn hn' hs e2 e1
  generalize Lib.compareInt x y = q at *
  have e4 : (q != 0) = true := by simpa [bne] using e3
  have e5 : ¬ q = 0 := by simpa using e3
  go_enter Tryz.func67, Tryz.ntmps67
  go_wp2_with fail
  refine (sign_grw A n c x _ HN.out).mono ?_
  rintro e w1 ⟨rfl, hb⟩
  have hB1 := (Blk.new_ (w.alloc (.cells #[.bool (ng x), .slice A n c] 35)) 35 #[.bool (ng y), .slice A' n' c'] (w.heap.size + 1) (by simp)).below hb.1 (by simp)
  have HG := Lib.hid ((((Grw.refl w).alloc (.cells #[.bool (ng x), .slice A n c] 35)).alloc (.cells #[.bool (ng y), .slice A' n' c'] 35)).trans hb)
  obtain ⟨k0, k1, _⟩ := cells2 hB1
  clear hb hB1
  go_wp2_with fail
  refine (sign_grw A' n' c' y _ HN'.out).mono ?_
  rintro e w2 ⟨rfl, hb⟩
  have HG2 := Lib.hid (HG.out.trans hb)
  clear hb
  go_wp2_with (go_at_call 66; refine (hcmp _).mono ?_; rintro e w' ⟨rfl, hw⟩; rw [hw]; clear hw)
  go_ret
  exact ⟨rfl, HG2.out⟩
/-- Both are 0. -/
theorem cmp_zeros (A : Option Addr) (c : Nat) (A' : Option Addr) (c' : Nat) (w : World) :
    Calls Tryz.prog 67 #[.agg #[.bool (ng 0), .slice A 0 c], .agg #[.bool (ng 0), .slice A' 0 c']] w fun e w' => e = .returned (.int .i64 0) ∧ Grw w w' := by
  have hcmp := fun W => Tryz.cmp_Compare_int 0 0 W
  rw [cmp_same] at hcmp
  have HN := Lib.hid ((wl_zero 0).2 rfl).symm
  have hz : (0 : Int).sign = 0 := rfl
  have hm := fun V => sign_grw A 0 c 0 V HN.out
  have hm' := fun V => sign_grw A' 0 c' 0 V HN.out
  rw [hz] at hm hm'
  obtain ⟨z, hz1⟩ : ∃ z : Int, z = 0 - 1 := ⟨_, rfl⟩
  have hz2 : ¬ 0 ≤ z := by omega
  go_enter Tryz.func67, Tryz.ntmps67
  go_wp2_with fail
  refine (hm _).mono ?_
  rintro e w1 ⟨rfl, hb⟩
  have hB0 := ((Blk.new w 35 #[.bool (ng 0), .slice A 0 c]).alloc (.cells #[.bool (ng 0), .slice A' 0 c'] 35)).below hb.1 (by simp <;> omega)
  have hB1 := (Blk.new_ (w.alloc (.cells #[.bool (ng 0), .slice A 0 c] 35)) 35 #[.bool (ng 0), .slice A' 0 c'] (w.heap.size + 1) (by simp)).below hb.1 (by simp)
  have HB0 := Lib.hid hB0
  have HB1 := Lib.hid hB1
  have HG := Lib.hid ((((Grw.refl w).alloc (.cells #[.bool (ng 0), .slice A 0 c] 35)).alloc (.cells #[.bool (ng 0), .slice A' 0 c'] 35)).trans hb)
  obtain ⟨k0, k1, _⟩ := cells2 hB1
  clear hb hB1 hB0
  go_wp2_with fail
  refine (hm' _).mono ?_
  rintro e w2 ⟨rfl, hb⟩
  have HG2 := Lib.hid (HG.out.trans hb)
  obtain ⟨l0, l1, _⟩ := cells2 (Blk.below HB0.out hb.1 (Blk.lt HB0.out))
  obtain ⟨m0, m1, _⟩ := cells2 (Blk.below HB1.out hb.1 (Blk.lt HB1.out))
  clear hb k0 k1
  go_wp2_with (go_at_call 66; refine (hcmp _).mono ?_; rintro e w' ⟨rfl, hw⟩; rw [hw]; clear hw)
  go_loopw [8] (fun i wr => ∃ z : Int, z < 0 ∧ i = .int .i64 z ∧ wr = w2) (fun _ _ => 0)
  case atStart => exact ⟨_, by decide, rfl, rfl⟩
  case round =>
    obtain ⟨z, hz, rfl, rfl⟩ := hrel
    have hz9 : ¬ 0 ≤ z := by omega
    clear hz1 hz2
    go_wp2_with fail
    go_ret
    exact ⟨rfl, HG2.out⟩
set_option maxHeartbeats 1000000 in
/-- Both have one word, and the same sign. -/
theorem cmp_both (A : Option Addr) (n c : Nat) (x : Int) (A' : Option Addr) (n' c' : Nat) (y : Int) (w : World) (h : Wh w A n c x) (h' : Wh w A' n' c' y) (hs : x.sign = y.sign) (h0 : x ≠ 0) (hx : x.natAbs < Q) (hy : y.natAbs < Q) :
    Calls Tryz.prog 67 #[.agg #[.bool (ng x), .slice A n c], .agg #[.bool (ng y), .slice A' n' c']] w fun e w' => e = .returned (.int .i64 (Lib.compareInt x y)) ∧ Grw w w' := by
  have hy0 : y ≠ 0 := fun e => by subst e; exact h0 (Int.sign_eq_zero_iff_zero.1 hs)
  obtain ⟨t1, t2, t3⟩ := cmp_word x y hs h0
  obtain ⟨hn, hc, hr⟩ := h
  obtain ⟨hn', hc', hr'⟩ := h'
  rw [one_dig h0 hx] at hr
  rw [one_dig hy0 hy] at hr'
  have HN := Lib.hid hn
  have HN' := Lib.hid hn'
  rw [one_wl h0 hx] at hn
  rw [one_wl hy0 hy] at hn'
  subst hn
  subst hn'
  obtain ⟨b, o, hA, hbl, hcell⟩ := hr.at_ (u64s_get [x.natAbs] 0 (by simp))
  obtain ⟨b', o', hA', hbl', hcell'⟩ := hr'.at_ (u64s_get [y.natAbs] 0 (by simp))
  simp only [List.getElem_cons_zero, Nat.add_zero] at hcell hcell'
  subst hA
  subst hA'
  have hsx : ∀ V, Calls Tryz.prog 65 #[.agg #[.bool (ng x), .slice (some ⟨b, o, none⟩) 1 c]] V fun e w' => e = .returned (.int .i64 x.sign) ∧ Grw V w' := fun V => sign_grw _ 1 c x V HN.out
  have hsy : ∀ V, Calls Tryz.prog 65 #[.agg #[.bool (ng y), .slice (some ⟨b', o', none⟩) 1 c']] V fun e w' => e = .returned (.int .i64 x.sign) ∧ Grw V w' := fun V => by rw [hs]; exact sign_grw _ 1 c' y V HN'.out
  have hcmp := fun W => Tryz.cmp_Compare_int x.sign x.sign W
  rw [cmp_same] at hcmp
  have hcm1 := fun W => Tryz.cmp_Compare_int 1 1 W
  rw [cmp_same] at hcm1
  have hcu := fun W => cmp_u x.natAbs y.natAbs W
  have HT4 := Lib.hid (show x.natAbs = y.natAbs → Lib.compareInt (x.natAbs : Int) (y.natAbs : Int) = 0 from fun e => by rw [e]; exact cmp_same _)
  have HSX := Lib.hid hsx
  have HSY := Lib.hid hsy
  have HC0 := Lib.hid hcmp
  have HC1 := Lib.hid hcm1
  have HT2 := Lib.hid t2
  have HT3 := Lib.hid t3
  have HT1 := Lib.hid t1
  have H1 := Lib.hid hcell
  have H2 := Lib.hid hcell'
  clear hr hr' h0 hy0 hx hy hs HN HN' hsx hsy hcmp hcm1 t1 t2 t3 hcell hcell'
  generalize x.sign = s at *
  generalize Lib.compareInt (x.natAbs : Int) (y.natAbs : Int) = q at *
  generalize Lib.compareInt x y = r at *
  generalize x.natAbs = X at *
  generalize y.natAbs = Y at *
  have HCU := Lib.hid hcu
  clear hcu
  go_enter Tryz.func67, Tryz.ntmps67
  go_wp2_with fail
  refine (HSX.out _).mono ?_
  rintro e w1 ⟨rfl, hb⟩
  have hB0 := ((Blk.new w 35 #[.bool (ng x), .slice (some ⟨b, o, none⟩) 1 c]).alloc (.cells #[.bool (ng y), .slice (some ⟨b', o', none⟩) 1 c'] 35)).below hb.1 (by simp <;> omega)
  have hB1 := (Blk.new_ (w.alloc (.cells #[.bool (ng x), .slice (some ⟨b, o, none⟩) 1 c] 35)) 35 #[.bool (ng y), .slice (some ⟨b', o', none⟩) 1 c'] (w.heap.size + 1) (by simp)).below hb.1 (by simp)
  have HB0 := Lib.hid hB0
  have HB1 := Lib.hid hB1
  have HG := Lib.hid ((((Grw.refl w).alloc (.cells #[.bool (ng x), .slice (some ⟨b, o, none⟩) 1 c] 35)).alloc (.cells #[.bool (ng y), .slice (some ⟨b', o', none⟩) 1 c'] 35)).trans hb)
  obtain ⟨k0, k1, _⟩ := cells2 hB1
  clear hb hB1 hB0
  go_wp2_with fail
  refine (HSY.out _).mono ?_
  rintro e w2 ⟨rfl, hb⟩
  have HG2 := Lib.hid (HG.out.trans hb)
  have HB02 := Lib.hid (Blk.below HB0.out hb.1 (Blk.lt HB0.out))
  have HB12 := Lib.hid (Blk.below HB1.out hb.1 (Blk.lt HB1.out))
  obtain ⟨l0, l1, _⟩ := cells2 HB02.out
  obtain ⟨m0, m1, _⟩ := cells2 HB12.out
  clear hb k0 k1
  go_wp2_with (go_at_call 66; first | (with_reducible refine (HC0.out _).mono ?_; rintro e w' ⟨rfl, hw⟩; rw [hw]; clear hw) | (with_reducible refine (HC1.out _).mono ?_; rintro e w' ⟨rfl, hw⟩; rw [hw]; clear hw))
  go_loopw [8] (fun i wr => ∃ z : Int, (z = 0 ∨ z < 0 ∧ X = Y) ∧ z ≤ 0 ∧ -1 ≤ z ∧ i = .int .i64 z ∧ Grw w2 wr) (fun i _ => (intOf i + 1).toNat)
  case atStart => exact ⟨0, .inl rfl, by omega, by omega, rfl, Grw.refl _⟩
  case round =>
    obtain ⟨z, hz, hz1, hz2, rfl, hg⟩ := hrel
    have HG3 := Lib.hid (HG2.out.trans hg)
    have HGr := Lib.hid hg
    by_cases h9 : 0 ≤ z
    · obtain rfl : z = 0 := by omega
      have c1 := cell_below l1 hg.1
      have c2 := cell_below m1 hg.1
      have c3 := cell_below H1.out HG3.out.1
      have c4 := cell_below H2.out HG3.out.1
      clear hz hz1 hz2 hg h9 l0 l1 m0 m1
      by_cases hXY : X = Y
      · have HXY := Lib.hid hXY
        have hq0 : q = 0 := HT4.out hXY
        subst hq0
        clear hXY
        go_wp2_with fail
        go_quiet ((go_at_call 94; exact Calls.quiet_of_same (HCU.out _)))
        go_wp2_with fail
        go_roundw
        case rel => exact ⟨-1, .inr ⟨by omega, HXY.out⟩, by omega, by omega, by rfl, HGr.out.drewN _⟩
        case measure => simp [intOf] <;> omega
      · have hq := HT3.out hXY
        have hq2 : (q != 0) = true := by simpa [bne] using hq
        have hq3 : ¬ q = 0 := by simpa using hq
        clear hXY
        go_wp2_with fail
        go_quiet ((go_at_call 94; exact Calls.quiet_of_same (HCU.out _)))
        go_wp2_with fail
        go_ret
        exact ⟨ret_i HT1.out, HG3.out.drewN _⟩
    · have hXY : X = Y := by rcases hz with h | h; omega; exact h.2
      have hr0 : r = 0 := HT2.out hXY
      have HR0 := Lib.hid hr0
      clear hr0 hz hz1 hz2 hg
      go_wp2_with fail
      go_ret
      exact ⟨by rw [HR0.out]; rfl, HG3.out⟩
/-- Of numbers of one word. -/
theorem cmp_small (A : Option Addr) (n c : Nat) (x : Int) (A' : Option Addr) (n' c' : Nat) (y : Int) (w : World) (h : Wh w A n c x) (h' : Wh w A' n' c' y) (hx : x.natAbs < Q) (hy : y.natAbs < Q) :
    Calls Tryz.prog 67 #[.agg #[.bool (ng x), .slice A n c], .agg #[.bool (ng y), .slice A' n' c']] w fun e w' => e = .returned (.int .i64 (Lib.compareInt x y)) ∧ Grw w w' := by
  by_cases hs : x.sign = y.sign
  · by_cases h0 : x = 0
    · subst h0
      have hy0 : y = 0 := Int.sign_eq_zero_iff_zero.1 hs.symm
      subst hy0
      obtain ⟨hn, _, _⟩ := h
      obtain ⟨hn', _, _⟩ := h'
      rw [(wl_zero 0).2 rfl] at hn hn'
      subst hn
      subst hn'
      exact cmp_zeros A c A' c' w
    · exact cmp_both A n c x A' n' c' y w h h' hs h0 hx hy
  · exact cmp_apart A n c x A' n' c' y w h.1 h'.1 hs
end Go.Proofs.YtbkbeglmfhaleaaGreatDoor
/-
The functions that the program hands on: whether a number is 0, and which exponent is less. Conditions: as each says.
-/
set_option linter.unusedVariables false
namespace Go.Proofs.YtbkbeglmfhaleaaGreatDoor
open Go.RowKit
attribute [local go_sem ↓] Go.wp_at_zero Go.wp_at_succ

/-- Is the number 0? -/
def isz (d : Dyadic) : Bool := d == 0
theorem isz_sign (d : Dyadic) : ((mant d).sign == 0) = isz d := by
  unfold isz
  rw [Bool.eq_iff_iff, beq_iff_eq, beq_iff_eq, Int.sign_eq_zero_iff_zero, mant_eq_zero]
theorem isz_true {d : Dyadic} : isz d = true ↔ d = 0 := by unfold isz; simp
theorem isz_false {d : Dyadic} : isz d = false ↔ d ≠ 0 := by unfold isz; simp

theorem mulz_any {x : D4} {w : World} (h : x.ok w) : Calls Tryz.prog 50 #[x.val] w fun e w' => e = .returned (.bool (isz x.d)) ∧ Below w.heap.size w w' := by
  have hs := isz_sign x.d
  have hsg := fun W (hb : Below w.heap.size w W) => psign_v (h.below hb).pv
  unfold D4.val at *
  generalize (mant x.d).sign = s at *
  have HS := Lib.hid hs
  have HSg := Lib.hid hsg
  clear hs hsg h
  go_enter Tryz.func50, Tryz.ntmps50
  go_wp2_with fail
  refine (HSg.out _ ((Below.refl w.heap.size w).alloc (Nat.le_refl _) _)).mono ?_
  rintro e w1 ⟨rfl, hb⟩
  have HB := Lib.hid (((Below.refl w.heap.size w).alloc (Nat.le_refl _) _).trans (hb.mono (by simp)))
  clear hb
  go_wp2_with fail
  go_ret
  exact ⟨by rw [← HS.out]; rfl, HB.out⟩

theorem partz_any {x : D4} {w : World} (h : x.ok w) : Calls Tryz.prog 82 #[x.val] w fun e w' => e = .returned (.bool (isz x.d)) ∧ Below w.heap.size w w' := by
  have hs := isz_sign x.d
  have hsg := fun W (hb : Below w.heap.size w W) => psign_v (h.below hb).pv
  unfold D4.val at *
  generalize (mant x.d).sign = s at *
  have HS := Lib.hid hs
  have HSg := Lib.hid hsg
  clear hs hsg h
  go_enter Tryz.func82, Tryz.ntmps82
  go_wp2_with fail
  refine (HSg.out _ ((Below.refl w.heap.size w).alloc (Nat.le_refl _) _)).mono ?_
  rintro e w1 ⟨rfl, hb⟩
  have HB := Lib.hid (((Below.refl w.heap.size w).alloc (Nat.le_refl _) _).trans (hb.mono (by simp)))
  clear hb
  go_wp2_with fail
  go_ret
  exact ⟨by rw [← HS.out]; rfl, HB.out⟩
/-- Which exponent is less. -/
theorem partc_any {x y : D4} {w : World} (h : x.ok w) (h' : y.ok w) (hx : (expo x.d).natAbs < Q) (hy : (expo y.d).natAbs < Q) :
    Calls Tryz.prog 84 #[x.val, y.val] w fun e w' => e = .returned (.int .i64 (Lib.compareInt (expo x.d) (expo y.d))) ∧ Grw w w' := by
  have hc := fun W (hb : Below w.heap.size w W) => cmp_small x.A' x.n' x.c' (expo x.d) y.A' y.n' y.c' (expo y.d) W (h.2.below hb) (h'.2.below hb) hx hy
  unfold D4.val
  have HC := Lib.hid hc
  clear hc h h' hx hy
  generalize Lib.compareInt (expo x.d) (expo y.d) = q at *
  go_enter Tryz.func84, Tryz.ntmps84
  go_wp2_with fail
  refine (HC.out _ (((Below.refl w.heap.size w).alloc (Nat.le_refl _) _).alloc (by simp) _)).mono ?_
  rintro e w1 ⟨rfl, hb⟩
  have HB := Lib.hid ((((Grw.refl w).alloc _).alloc _).trans hb)
  clear hb
  go_wp2_with fail
  go_ret
  exact ⟨rfl, HB.out⟩
end Go.Proofs.YtbkbeglmfhaleaaGreatDoor
/-
Whole numbers of one word: clamp. Conditions: as it says.
-/
set_option linter.unusedVariables false
namespace Go.Proofs.YtbkbeglmfhaleaaGreatDoor
open Go.RowKit
attribute [local go_sem ↓] Go.wp_at_zero Go.wp_at_succ

theorem clamp_any (A : Option Addr) (n c : Nat) (z lo hi : Int) (w : World) (h : Wh w A n c z) (hz : z.natAbs < 9223372036854775807) :
    Calls Tryz.prog 61 #[.agg #[.bool (ng z), .slice A n c], .int .i64 lo, .int .i64 hi] w fun e w' => e = .returned (.int .i64 (min (max z lo) hi)) ∧ Below w.heap.size w w' := by
  by_cases h0 : z = 0
  · subst h0
    obtain ⟨hn, _, _⟩ := h
    rw [(wl_zero 0).2 rfl] at hn
    subst hn
    have hg : ng 0 = false := rfl
    rw [hg]
    clear hz hg
    go_enter Tryz.func61, Tryz.ntmps61
    go_wp2_with fail
    go_ret
    exact ⟨ret_i (by first | rfl | (repeat' split) <;> omega), (Below.refl _ _).alloc (Nat.le_refl _) _⟩
  · obtain ⟨hn, hc, hr⟩ := h
    have hq : z.natAbs < Q := by unfold Q; omega
    rw [one_dig h0 hq] at hr
    rw [one_wl h0 hq] at hn
    subst hn
    obtain ⟨b, o, hA, hbl, hcell⟩ := hr.at_ (u64s_get [z.natAbs] 0 (by simp))
    simp only [List.getElem_cons_zero, Nat.add_zero] at hcell
    subst hA
    obtain ⟨Z, hZ⟩ : ∃ Z, z.natAbs = Z := ⟨_, rfl⟩
    rw [hZ] at hcell hz
    have e1 : (Z : Int) < 9223372036854775807 := by omega
    have e2 : IntKind.i64.wrap (Z : Int) = (Z : Int) := by rw [IntWalk.i64_in _ (by omega)]
    have e3 : IntKind.i64.wrap (-(Z : Int)) = -(Z : Int) := by rw [IntWalk.i64_in _ (by omega)]
    have e4 : wrap64 (Z : Int) = (Z : Int) := by unfold wrap64; omega
    have e5 : wrap64 (-(Z : Int)) = -(Z : Int) := by unfold wrap64; omega
    by_cases hs : z < 0
    · have hg : ng z = true := by unfold ng; exact decide_eq_true hs
      have hzz : z = -(Z : Int) := by omega
      rw [hg, hzz]
      clear hr hZ hz hq h0 hs hg hzz
      go_enter Tryz.func61, Tryz.ntmps61
      go_wp2_with fail
      go_ret
      exact ⟨ret_i (by first | rfl | (repeat' split) <;> omega), (Below.refl _ _).alloc (Nat.le_refl _) _⟩
    · have hg : ng z = false := by unfold ng; exact decide_eq_false hs
      have hzz : z = (Z : Int) := by omega
      rw [hg, hzz]
      clear hr hZ hz hq h0 hs hg hzz
      go_enter Tryz.func61, Tryz.ntmps61
      go_wp2_with fail
      go_ret
      exact ⟨ret_i (by first | rfl | (repeat' split) <;> omega), (Below.refl _ _).alloc (Nat.le_refl _) _⟩
end Go.Proofs.YtbkbeglmfhaleaaGreatDoor
/-
The program's join of none, and of one number. Conditions: as each says.
-/
set_option linter.unusedVariables false
set_option linter.unusedSimpArgs false
namespace Go.Proofs.YtbkbeglmfhaleaaGreatDoor
open Go.RowKit
attribute [local go_sem ↓] Go.wp_at_zero Go.wp_at_succ

theorem pjoin_nil (A : Option Addr) (c : Nat) (w : World) : Calls Tryz.prog 48 #[.slice A 0 c] w (RetP 0 w) := by
  go_enter Tryz.func48, Tryz.ntmps48
  go_wp2_with fail
  have HB := Lib.hid (Blk.new w 37 #[.bool false, .slice none 0 0, .bool false, .slice none 0 0])
  obtain ⟨k0, k1, k2, k3, _⟩ := cells4 HB.out
  exact bodyPost_ret (v := .agg #[.bool false, .slice none 0 0, .bool false, .slice none 0 0]) (by simp [results, Tryz.results48, go_sem, k0, k1, k2, k3]) rfl
    ⟨_, rfl, PV.zero _ _ _ _ _, (Below.refl w.heap.size w).alloc (Nat.le_refl _) _⟩
theorem pjoin_one (A : Option Addr) (c : Nat) (x : D4) (w : World) (hl : Dl w A [x]) (ho : x.ok w) : Calls Tryz.prog 48 #[.slice A 1 c] w (RetP x.d w) := by
  obtain ⟨b, o, rfl, hb, x0, x1, x2, x3⟩ := hl.at_ (i := 0) (by simp)
  simp only [List.getElem_cons_zero, Nat.zero_mul, Nat.add_zero] at x0 x1 x2 x3
  have HO := Lib.hid ho
  clear hl ho
  go_enter Tryz.func48, Tryz.ntmps48
  go_wp2_with fail
  have HB := Lib.hid (Blk.new w 37 #[.bool (ng (mant x.d)), .slice x.A x.n x.c, .bool (ng (expo x.d)), .slice x.A' x.n' x.c'])
  have hbl := (Below.refl w.heap.size w).alloc (Nat.le_refl _) (.cells #[.bool (ng (mant x.d)), .slice x.A x.n x.c, .bool (ng (expo x.d)), .slice x.A' x.n' x.c'] 37)
  have hD := HO.out.below hbl
  obtain ⟨k0, k1, k2, k3, _⟩ := cells4 HB.out
  exact bodyPost_ret (v := .agg #[.bool (ng (mant x.d)), .slice x.A x.n x.c, .bool (ng (expo x.d)), .slice x.A' x.n' x.c']) (by simp [results, Tryz.results48, go_sem, k0, k1, k2, k3]) rfl
    (RetD.retp (RetD_def _ _ _ _ _ _ _ _ _ _ _ _ _ rfl rfl rfl rfl hD.1 hD.2 hbl))
theorem info_whole : (Tryz.prog.info? 35).map (fun i => (i.zero, i.size, i.bytes)) = some (some (.agg #[.bool false, .slice none 0 0]), 2, 32) := by kernel_rfl
theorem run_makew (n : Nat) (hn : n ≤ 1099511627776) (W : World) :
    (Instr.makeSlice 112 (.int .i64 (n : Int)) (.int .i64 (n : Int))).run Tryz.prog W = .ok (.slice (some ⟨W.heap.size, 0, none⟩) n n) (W.alloc (.cells (madeCells #[.bool false, .slice none 0 0] (n * 2)) 35)) := by
  obtain ⟨i, hi, hzz⟩ := Option.map_eq_some_iff.1 info_whole
  simp only [Prod.mk.injEq] at hzz
  obtain ⟨hz, hs, hb⟩ := hzz
  have hr := Go.run_make (P := Tryz.prog) W 112 35 i _ Tryz.underlying112 hi hz .i64 .i64 n n (by omega) (Int.le_refl _) (by rw [hb]; omega) (by omega)
  simp only [Int.toNat_natCast, hs] at hr
  exact hr
theorem info_int9 : (Tryz.prog.info? 3).map (fun i => (i.zero, i.size, i.bytes)) = some (some (.int .i64 0), 1, 8) := by kernel_rfl
theorem run_makei (n : Nat) (hn : n ≤ 1099511627776) (W : World) :
    (Instr.makeSlice 28 (.int .i64 (n : Int)) (.int .i64 (n : Int))).run Tryz.prog W = .ok (.slice (some ⟨W.heap.size, 0, none⟩) n n) (W.alloc (.cells (madeCells #[.int .i64 0] n) 3)) := by
  exact run_make_row' _ _ _ 8 Tryz.underlying28 info_int9 rfl _ _ n (by omega) (by omega) W
end Go.Proofs.YtbkbeglmfhaleaaGreatDoor
/-
The product of whole numbers by their words: what each round of addTimes and of times leaves. Conditions: none.
-/
set_option linter.unusedVariables false
namespace Go.Proofs.YtbkbeglmfhaleaaGreatDoor

theorem ofd_put (B : Nat) (l : List Nat) (i v y : Nat) (hi : i < l.length) (hy : l[i] = y) : ofd B (l.set i v) + B ^ i * y = ofd B l + B ^ i * v := by
  subst hy; exact ofd_set B l i v hi
/-- addTimes has come k words far: L is what lay there, D is what is multiplied by W, from place p on; M is what lies there now, o what is carried. -/
def Tim1 (L D : List Nat) (W p k : Nat) (M : List Nat) (o : Nat) : Prop :=
  Digs Q M ∧ M.length = L.length ∧ o < Q ∧ M.drop (p + k) = L.drop (p + k) ∧ ofd Q M + Q ^ (p + k) * o = ofd Q L + Q ^ p * (ofd Q (D.take k) * W)
theorem Tim1.start {L D : List Nat} {W p : Nat} (h : Digs Q L) : Tim1 L D W p 0 L 0 := ⟨h, rfl, by unfold Q; omega, rfl, by simp [ofd]⟩
theorem mul_room {d W o y : Nat} (hd : d < Q) (hW : W < Q) (ho : o < Q) (hy : y < Q) : d * W + o + y < Q * Q := by
  have h1 : d * W ≤ (Q - 1) * (Q - 1) := Nat.mul_le_mul (by omega) (by omega)
  have h2 : (Q - 1) * (Q - 1) + (Q - 1) + (Q - 1) < Q * Q := by unfold Q; decide
  omega
/-- One word's product, with what is carried and what lies there. -/
theorem tim_word {d W o y : Nat} (hd : d < Q) (hW : W < Q) (ho : o < Q) (hy : y < Q) :
    d * W / Q + (d * W % Q + o) / Q < Q ∧ d * W / Q + (d * W % Q + o) / Q + (y + (d * W % Q + o) % Q) / Q < Q ∧
      (y + (d * W % Q + o) % Q) % Q + Q * (d * W / Q + (d * W % Q + o) / Q + (y + (d * W % Q + o) % Q) / Q) = y + o + d * W := by
  have hr := mul_room hd hW ho hy
  generalize d * W = P at *
  have e1 := Nat.div_add_mod P Q
  have e2 := Nat.div_add_mod (P % Q + o) Q
  have e3 := Nat.div_add_mod (y + (P % Q + o) % Q) Q
  have key : (y + (P % Q + o) % Q) % Q + Q * (P / Q + (P % Q + o) / Q + (y + (P % Q + o) % Q) / Q) = y + o + P := by
    rw [Nat.mul_add, Nat.mul_add]
    omega
  have lt2 : P / Q + (P % Q + o) / Q + (y + (P % Q + o) % Q) / Q < Q := by
    refine Nat.lt_of_mul_lt_mul_left (a := Q) ?_
    generalize P / Q + (P % Q + o) / Q + (y + (P % Q + o) % Q) / Q = S at *
    generalize Q * S = T at *
    generalize Q * Q = U at *
    omega
  exact ⟨Nat.lt_of_le_of_lt (Nat.le_add_right _ _) lt2, lt2, key⟩
theorem Tim1.step {L D : List Nat} {W p k : Nat} {M : List Nat} {o d y : Nat} (h : Tim1 L D W p k M o) (hk : k < D.length) (hd : D[k] = d) (hdq : d < Q) (hW : W < Q) (hi : p + k < M.length) (hy : M[p + k] = y) :
    Tim1 L D W p (k + 1) (M.set (p + k) ((y + (d * W % Q + o) % Q) % Q)) (d * W / Q + (d * W % Q + o) / Q + (y + (d * W % Q + o) % Q) / Q) := by
  obtain ⟨h1, h2, h3, h4, h5⟩ := h
  have hyq : y < Q := by rw [← hy]; exact h1.get _ hi
  obtain ⟨t1, t2, t3⟩ := tim_word hdq hW h3 hyq
  generalize d * W / Q + (d * W % Q + o) / Q + (y + (d * W % Q + o) % Q) / Q = o' at *
  have hx : (y + (d * W % Q + o) % Q) % Q < Q := Nat.mod_lt _ (by unfold Q; omega)
  generalize (y + (d * W % Q + o) % Q) % Q = x at *
  refine ⟨h1.set _ hx, by simpa using h2, t2, ?_, ?_⟩
  · rw [show p + (k + 1) = p + k + 1 by omega, drop_set_succ, ← List.drop_drop (i := 1) (j := p + k), h4, List.drop_drop]
  · have e1 := ofd_put Q M (p + k) x y hi hy
    rw [ofd_take_succ Q D k hk, hd, show p + (k + 1) = p + k + 1 by omega, Nat.pow_succ]
    have e2 : Q ^ p * ((ofd Q (D.take k) + Q ^ k * d) * W) = Q ^ p * (ofd Q (D.take k) * W) + Q ^ (p + k) * (d * W) := by
      rw [Nat.add_mul, Nat.mul_add, Nat.pow_add]; congr 1; simp only [Nat.mul_assoc]
    rw [e2, ← Nat.add_assoc, ← h5]
    have e3 : Q ^ (p + k) * x + Q ^ (p + k) * Q * o' = Q ^ (p + k) * (y + o + d * W) := by rw [← t3, Nat.mul_add, Nat.mul_assoc]
    rw [Nat.mul_add, Nat.mul_add] at e3
    omega
/-- times has come k words far. -/
def Tim2 (X Y : List Nat) (k : Nat) (M : List Nat) : Prop :=
  Digs Q M ∧ M.length = X.length + Y.length ∧ M.drop (k + Y.length) = List.replicate (X.length - k) 0 ∧ ofd Q M = ofd Q (X.take k) * ofd Q Y
theorem Tim2.start (X Y : List Nat) : Tim2 X Y 0 (List.replicate (X.length + Y.length) 0) :=
  ⟨Digs.replicate (by unfold Q; omega) _, by simp, by simp, by simp [ofd_replicate, ofd]⟩
theorem Tim2.step {X Y : List Nat} {k : Nat} {L M : List Nat} {o W : Nat} (h : Tim2 X Y k L) (hk : k < X.length) (hX : X[k] = W) (hm : Tim1 L Y W k Y.length M o) : Tim2 X Y (k + 1) (M.set (k + Y.length) o) := by
  obtain ⟨h1, h2, h3, h4⟩ := h
  obtain ⟨m1, m2, m3, m4, m5⟩ := hm
  have hi : k + Y.length < M.length := by omega
  have hz : M[k + Y.length] = 0 := by
    have e : M.drop (k + Y.length) = List.replicate (X.length - k) 0 := m4.trans h3
    have := List.drop_eq_getElem_cons hi
    rw [e, show X.length - k = (X.length - k - 1) + 1 by omega, List.replicate_succ] at this
    injection this with a b
    exact a.symm
  refine ⟨m1.set _ m3, by simp; omega, ?_, ?_⟩
  · rw [show k + 1 + Y.length = k + Y.length + 1 by omega, drop_set_succ, ← List.drop_drop, m4, h3, show X.length - k = (X.length - (k + 1)) + 1 by omega, List.replicate_succ]; rfl
  · have e1 := ofd_put Q M (k + Y.length) o 0 hi hz
    rw [ofd_take_succ Q X k hk, hX, Nat.add_mul, ← h4]
    rw [List.take_length] at m5
    have e2 : Q ^ k * W * ofd Q Y = Q ^ k * (ofd Q Y * W) := by rw [Nat.mul_assoc, Nat.mul_comm W]
    omega
theorem Tim2.done {X Y M : List Nat} (h : Tim2 X Y X.length M) : Digs Q M ∧ M.length = X.length + Y.length ∧ ofd Q M = ofd Q X * ofd Q Y :=
  ⟨h.1, h.2.1, by have := h.2.2.2; rwa [List.take_length] at this⟩
end Go.Proofs.YtbkbeglmfhaleaaGreatDoor
/-
Whole numbers: addTimes. Conditions: as each says.
-/
set_option linter.unusedVariables false
namespace Go.Proofs.YtbkbeglmfhaleaaGreatDoor
open Go.RowKit
attribute [local go_sem ↓] Go.wp_at_zero Go.wp_at_succ

theorem mul_q (x y : Nat) (hx : x < Q) (hy : y < Q) (w : World) :
    Calls Tryz.prog 110 #[.int .u64 x, .int .u64 y] w fun e w' => e = .returned (.tuple #[.int .u64 ((x * y / Q : Nat) : Int), .int .u64 ((x * y % Q : Nat) : Int)]) ∧ w' = w := Tryz.bits_Mul64 x y hx hy w
theorem u64_in (n : Nat) (h : n < Q) : IntKind.u64.wrap (n : Int) = (n : Int) := by rw [IntKind.wrap_u64]; unfold Q at h; omega
/-- What addTimes came to. -/
def AddT (g p n : Nat) (t : TypeId) (L D : List Nat) (W : Nat) (w : World) (e : Ending) (w' : World) : Prop :=
  ∃ (o : Nat) (M : List Nat), e = .returned (.int .u64 (o : Int)) ∧ Tim1 L D W p n M o ∧ Blk w' g t (u64s M).toArray ∧ Only g w w'
set_option maxHeartbeats 1000000 in
theorem addTimes_any (g p n c c2 N : Nat) (t : TypeId) (L D : List Nat) (A : Option Addr) (W : Nat) (w : World) (hL : Digs Q L) (hN : L.length = N) (hNb : N ≤ 1099511627776) (hp : p + n ≤ N) (hB : Blk w g t (u64s L).toArray)
    (hD : Digs Q D) (hn : D.length = n) (hr : Row w A (u64s D)) (hA : ∀ b o, 0 < n → A = some ⟨b, o, none⟩ → b ≠ g) (hW : W < Q) :
    Calls Tryz.prog 87 #[.slice (some ⟨g, p, none⟩) n c, .slice A n c2, .int .u64 (W : Int)] w (AddT g p n t L D W w) := by
  have HST := Lib.hid (Tim1.start (D := D) (W := W) (p := p) hL)
  have HR := Lib.hid hr
  have HN := Lib.hid hN
  have HNn := Lib.hid hn
  have HA := Lib.hid hA
  have HB := Lib.hid hB
  have HD := Lib.hid hD
  have HW := Lib.hid hW
  clear hL hr hN hn hA hB hD hW
  go_enter Tryz.func87, Tryz.ntmps87
  go_wp2_with fail
  go_loopw [7, 15] (fun a i wr => ∃ (k o : Nat) (M : List Nat), k ≤ n ∧ a = .int .u64 o ∧ i = .int .i64 k ∧ Tim1 L D W p k M o ∧ Blk wr g t (u64s M).toArray ∧ Only g w wr) (fun _ i _ => n - (intOf i).toNat)
  case atStart => exact ⟨0, 0, L, Nat.zero_le _, rfl, rfl, HST.out, HB.out, Only.refl _ _⟩
  case round =>
    obtain ⟨k, o, M, hk, rfl, rfl, htim, hBM, hO⟩ := hrel
    by_cases hlt : k < n
    · have hlen : M.length = N := htim.2.1.trans HN.out
      have hoq : o < Q := htim.2.2.1
      have hkd : k < D.length := by rw [HNn.out]; exact hlt
      have hi : p + k < M.length := by omega
      obtain ⟨b, q, hAe, hbl, hcell0⟩ := HR.out.at_ (u64s_get D k hkd)
      subst hAe
      have hne : b ≠ g := HA.out b q (by omega) rfl
      have hcell := hO.cell hne hcell0
      have hget := hBM.cell (p + k)
      rw [u64s_arr M _ hi] at hget
      have hfr := hBM.frozen (p + k)
      have hd := HD.out.get k hkd
      have hy := (htim.1).get (p + k) hi
      have hstep := htim.step hkd rfl hd HW.out hi rfl
      generalize D[k] = d at *
      generalize hMx : M[p + k] = y at *
      obtain ⟨t1, t2, t3⟩ := tim_word hd HW.out hoq hy
      have hmul := fun V => mul_q d W hd HW.out V
      generalize hH : d * W / Q = H at *
      generalize hLo : d * W % Q = Lo at *
      have hr1 := fun V => run_add Lo o 0 (by omega) V
      rw [Nat.add_zero] at hr1
      generalize hl1 : (Lo + o) % Q = lo1 at *
      generalize hm1 : (Lo + o) / Q = m1 at *
      have hr2 := fun V => run_add y lo1 0 (by omega) V
      rw [Nat.add_zero] at hr2
      have hw1 : IntKind.u64.wrap ((H : Int) + (m1 : Int)) = ((H + m1 : Nat) : Int) := by rw [← Int.natCast_add]; exact u64_in _ t1
      generalize hv : (y + lo1) % Q = v at *
      generalize hm2 : (y + lo1) / Q = m2 at *
      have hw2 : IntKind.u64.wrap (((H + m1 : Nat) : Int) + (m2 : Int)) = ((H + m1 + m2 : Nat) : Int) := by rw [← Int.natCast_add]; exact u64_in _ t2
      generalize H + m1 = H1 at *
      generalize H1 + m2 = o' at *
      have hset := hBM.set_ (p + k) (.int .u64 (v : Int))
      rw [u64s_set] at hset
      have HSet := Lib.hid hset
      have HStep := Lib.hid hstep
      have HOn := Lib.hid hO
      have e0 : ((0 : Nat) : Int) = 0 := rfl
      rw [e0] at hr1 hr2
      have e4 : (k : Int) < (n : Int) := by omega
      clear hset hstep hO htim hkd hi hcell0 hd hy hMx hH hLo hl1 hm1 hv hm2 t1 t2 t3 hoq hBM hlen e0
      go_wp2_with (go_at_call 110; refine (hmul _).mono ?_; rintro e w1 ⟨rfl, hwe⟩; rw [hwe]; clear hwe)
      go_roundw
      case rel => exact ⟨k + 1, o', M.set (p + k) v, by omega, rfl, by go_num, HStep.out, HSet.out, HOn.out.set_ _ _⟩
      case measure => simp [intOf] <;> omega
    · obtain rfl : k = n := by omega
      have e4 : ¬ (k : Int) < (k : Int) := by omega
      have HT := Lib.hid htim
      have HBM := Lib.hid hBM
      have HOn := Lib.hid hO
      clear htim hBM hO
      go_wp2_with fail
      go_ret
      exact ⟨o, M, rfl, HT.out, HBM.out, HOn.out⟩
end Go.Proofs.YtbkbeglmfhaleaaGreatDoor
/-
Whole numbers: times. Conditions: as each says.
-/
set_option linter.unusedVariables false
namespace Go.Proofs.YtbkbeglmfhaleaaGreatDoor
open Go.RowKit
attribute [local go_sem ↓] Go.wp_at_zero Go.wp_at_succ

theorem ng_mul {x y : Int} (hx : x ≠ 0) (hy : y ≠ 0) : (ng x != ng y) = ng (x * y) := by
  unfold ng
  rcases Int.lt_trichotomy x 0 with h | h | h <;> rcases Int.lt_trichotomy y 0 with h' | h' | h' <;> try contradiction
  · have := Int.mul_pos_of_neg_of_neg h h'; simp [h, h']; omega
  · have := Int.mul_neg_of_neg_of_pos h h'; simp [h, this]; omega
  · have := Int.mul_neg_of_pos_of_neg h h'; simp [h', this]; omega
  · have := Int.mul_pos h h'; rw [decide_eq_false (by omega), decide_eq_false (by omega), decide_eq_false (by omega)]; rfl
theorem row_only {g : Nat} {w w' : World} {A : Option Addr} {l : List Nat} (h : Row w A (u64s l)) (hO : Only g w w') (hg : ∀ b o, 0 < l.length → A = some ⟨b, o, none⟩ → b ≠ g) : Row w' A (u64s l) := by
  cases l with
  | nil => exact .inl rfl
  | cons d l => exact hO.row (fun b o e => hg b o (by simp) e) h
theorem row_lt {w : World} {A : Option Addr} {l : List Nat} (h : Row w A (u64s l)) {b o : Nat} (h0 : 0 < l.length) (e : A = some ⟨b, o, none⟩) : b < w.heap.size := by
  obtain ⟨b', o', e', hlt, _⟩ := h.at_ (u64s_get l 0 h0)
  rw [e] at e'; injection e' with e'; injection e' with e1; omega
set_option maxHeartbeats 1000000 in
set_option maxRecDepth 10000 in
theorem times_any (A : Option Addr) (n c : Nat) (x : Int) (A' : Option Addr) (n' c' : Nat) (y : Int) (w : World) (h : Wh w A n c x) (h' : Wh w A' n' c' y) (hx : wl x ≤ 137438953472) (hy : wl y ≤ 137438953472) (hx0 : x ≠ 0) (hy0 : y ≠ 0) :
    Calls Tryz.prog 52 #[.agg #[.bool (ng x), .slice A n c], .agg #[.bool (ng y), .slice A' n' c']] w (RetW (x * y) w) := by
  obtain ⟨hn, hc, hr⟩ := h
  obtain ⟨hn', hc', hr'⟩ := h'
  have hnb : n ≤ 137438953472 := by omega
  have hnb' : n' ≤ 137438953472 := by omega
  obtain ⟨N, hN⟩ : ∃ N, n + n' = N := ⟨_, rfl⟩
  have e1 : IntKind.i64.wrap ((n : Int) + (n' : Int)) = (N : Int) := by rw [IntWalk.i64_in _ (by omega)]; omega
  have hmk := fun V => run_make N (by omega) V
  have HNN := Lib.hid hN
  have HNb := Lib.hid hnb
  have HNb' := Lib.hid hnb'
  clear hN hnb hnb'
  have HR := Lib.hid hr
  have HR' := Lib.hid hr'
  have HN := Lib.hid hn
  have HN' := Lib.hid hn'
  have HX0 := Lib.hid hx0
  have HY0 := Lib.hid hy0
  clear hr hr' hn hn' hx hy hx0 hy0
  go_enter Tryz.func52, Tryz.ntmps52
  go_wp2_with fail
  go_loopw [20] (fun i wr => ∃ (k : Nat) (M : List Nat), k ≤ n ∧ i = .int .i64 k ∧ Tim2 (dig x) (dig y) k M ∧ Blk wr (w.heap.size + 1 + 1 + 1) 58 (u64s M).toArray ∧
    Blk wr w.heap.size 35 #[.bool (ng x), .slice A n c] ∧ Blk wr (w.heap.size + 1) 35 #[.bool (ng y), .slice A' n' c'] ∧
    Blk wr (w.heap.size + 1 + 1) 35 #[.bool false, .slice none 0 0] ∧ Below w.heap.size w wr) (fun i _ => n - (intOf i).toNat)
  case atStart =>
    have hT := Tim2.start (dig x) (dig y)
    rw [show (dig x).length + (dig y).length = N by have := HNN.out; have := HN.out; have := HN'.out; unfold wl at *; omega] at hT
    exact ⟨0, _, Nat.zero_le _, rfl, hT, Blk.new_ _ _ _ _ (by simp), (((Blk.new w _ _).alloc _).alloc _).alloc _, ((Blk.new_ (w.alloc _) _ _ _ (by simp)).alloc _).alloc _, (Blk.new_ ((w.alloc _).alloc _) _ _ _ (by simp)).alloc _,
      ((((Below.refl w.heap.size w).alloc (Nat.le_refl _) _).alloc (by simp) _).alloc (by simp <;> omega) _).alloc (by simp <;> omega) _⟩
  case round =>
    obtain ⟨k, M, hk, rfl, htim, hBM, hB0, hB1, hB2, hbl⟩ := hrel
    by_cases hlt : k < n
    · have hkd : k < (dig x).length := by have := HN.out; unfold wl at this; omega
      have hyl : (dig y).length = n' := by have := HN'.out; unfold wl at this; omega
      have hlen : M.length = N := by rw [htim.2.1, hyl]; have := HNN.out; have := HN.out; unfold wl at this; omega
      obtain ⟨b, o, hAe, hblt, hcell0⟩ := HR.out.at_ (u64s_get (dig x) k hkd)
      subst hAe
      have hcell := cell_below hcell0 hbl
      have hWq := (dig_lt x).get k hkd
      have hstep := fun o' M' (h : Tim1 M (dig y) (dig x)[k] k n' M' o') => htim.step (M := M') (o := o') hkd rfl (by rw [hyl]; exact h)
      rw [hyl] at hstep
      generalize hWd : (dig x)[k] = W at *
      have hadd := fun V (hV : Blk V (w.heap.size + 1 + 1 + 1) 58 (u64s M).toArray) (hb : Below w.heap.size w V) => addTimes_any (w.heap.size + 1 + 1 + 1) k n' n' c' N 58 M (dig y) A' W V htim.1 hlen (by have := HNN.out; have := HNb.out; have := HNb'.out; omega) (by have := HNN.out; omega) hV (dig_lt y) hyl (HR'.out.below hb) (fun b o h0 e => by have := row_lt HR'.out (by omega) e; omega) hWq
      obtain ⟨T, hTT⟩ : ∃ T, k + n' = T := ⟨_, rfl⟩
      rw [hTT] at hstep
      have e2 : IntKind.i64.wrap ((k : Int) + (n' : Int)) = (T : Int) := by have := HNb.out; have := HNb'.out; rw [IntWalk.i64_in _ (by omega)]; omega
      have HTim := Lib.hid htim
      have HStep := Lib.hid hstep
      have HAdd := Lib.hid hadd
      have HB := Lib.hid hBM
      have HB0 := Lib.hid hB0
      have HB1 := Lib.hid hB1
      have HB2 := Lib.hid hB2
      have HBl := Lib.hid hbl
      have HLen := Lib.hid hlen
      have HTT := Lib.hid hTT
      obtain ⟨k0, k1, _⟩ := cells2 hB1
      have e4 : (k : Int) < (n : Int) := by omega
      have e5 : (k : Int) ≤ (T : Int) := by omega
      have e6 : (T : Int) ≤ (N : Int) := by have := HNN.out; omega
      have e7 : (T : Int) < (N : Int) := by have := HNN.out; omega
      have e8 : T - k = n' := by omega
      have e9 : ¬ T = k := by have h9 := (wl_zero y); have := HY0.out; have := HN'.out; omega
      clear hstep hadd htim hBM hB0 hB1 hB2 hbl hcell0 hkd hyl hlen hWq hWd hTT hblt
      go_wp2_with fail
      clear hmk e1 e2
      go_region_held3 (fun w' => w'.cell? ⟨w.heap.size + 1, 1, none⟩ = some (.slice A' n' c'))
        (first | exact hO'.cell (by omega) k1 | exact (cell_set (by omega) _).trans (hO'.cell (by omega) k1) | go_keep)
        ((go_at_call 87; refine (HAdd.out _ (HB.out.drew) (HBl.out.drew)).mono ?_; rintro e w1 ⟨o', M', rfl, hT', hB', hO'⟩; have hlt9 : T < M'.length := by have h9 := hT'.2.1; have h8 := HLen.out; omega
          have hget := hB'.cell T; rw [u64s_arr M' T hlt9] at hget; have hfr := hB'.frozen T; skip))
      have hset := hB'.set_ T (.int .u64 (o' : Int))
      rw [u64s_set] at hset
      have HSet := Lib.hid hset
      have HS2 := Lib.hid (HStep.out o' M' hT')
      have X0 := Lib.hid ((hO'.blk (by omega) HB0.out.drew).other (p := ⟨w.heap.size + 1 + 1 + 1, T, none⟩) (by simp <;> omega) (.int .u64 (o' : Int)))
      have X1 := Lib.hid ((hO'.blk (by omega) HB1.out.drew).other (p := ⟨w.heap.size + 1 + 1 + 1, T, none⟩) (by simp <;> omega) (.int .u64 (o' : Int)))
      have X2 := Lib.hid ((hO'.blk (by omega) HB2.out.drew).other (p := ⟨w.heap.size + 1 + 1 + 1, T, none⟩) (by simp <;> omega) (.int .u64 (o' : Int)))
      have XB := Lib.hid ((hO'.below HBl.out.drew HBl.out.size (by omega)).setCell (p := ⟨w.heap.size + 1 + 1 + 1, T, none⟩) (by simp <;> omega) (.int .u64 (o' : Int)))
      clear hset hT' hB' hO'
      have h9 := HNb.out
      go_wp2_with fail
      go_roundw
      case rel => exact ⟨k + 1, M'.set T o', by omega, by go_num, HS2.out, HSet.out, X0.out, X1.out, X2.out, XB.out⟩
      case measure => simp [intOf] <;> omega
    · obtain rfl : k = n := by omega
      have e4 : ¬ (k : Int) < (k : Int) := by omega
      have hkn : k = (dig x).length := by have := HN.out; unfold wl at this; exact this
      have hyl : (dig y).length = n' := by have := HN'.out; unfold wl at this; omega
      obtain ⟨hd, hl, hv⟩ := Tim2.done (X := dig x) (Y := dig y) (M := M) (by rw [← hkn]; exact htim)
      rw [ofd_dig, ofd_dig, ← Int.natAbs_mul] at hv
      have hNb : N ≤ 1152921504606846976 := by have := HNN.out; have := HNb.out; have := HNb'.out; omega
      have hlN : N = M.length := by rw [hl, ← hkn, hyl]; exact HNN.out.symm
      have htr := fun V (hr : Row V (some ⟨w.heap.size + 1 + 1 + 1, 0, none⟩) (u64s M)) => trim_any (w.heap.size + 1 + 1 + 1) 0 N N M V hlN (Nat.le_refl _) hNb hd hr
      have HTr := Lib.hid (htr wr.drew (row_blk hBM.drew))
      have HW := Lib.hid (Wh.trimmed (z := x * y) hd (row_blk hBM) hv)
      obtain ⟨k0, k1, _, _⟩ := cells2 hB0
      obtain ⟨l0, l1, _, _⟩ := cells2 hB1
      obtain ⟨r0, r1, f0, f1⟩ := cells2 hB2
      have hk0 : ∀ u v, ((wr.setCell ⟨w.heap.size + 1 + 1, 0, none⟩ u).setCell ⟨w.heap.size + 1 + 1, 1, none⟩ v).drew.cell? ⟨w.heap.size, 0, none⟩ = some (.bool (ng x)) := fun u v => (cell_set (by omega) v).trans ((cell_set (by omega) u).trans k0)
      have hk1 : ∀ u v, ((wr.setCell ⟨w.heap.size + 1 + 1, 0, none⟩ u).setCell ⟨w.heap.size + 1 + 1, 1, none⟩ v).drew.cell? ⟨w.heap.size + 1, 0, none⟩ = some (.bool (ng y)) := fun u v => (cell_set (by omega) v).trans ((cell_set (by omega) u).trans l0)
      have hk2 : ∀ u v, ((wr.setCell ⟨w.heap.size + 1 + 1, 0, none⟩ u).setCell ⟨w.heap.size + 1 + 1, 1, none⟩ v).drew.frozen? ⟨w.heap.size + 1 + 1, 0, none⟩ = false := fun u v => by simpa using f0
      have HB2 := Lib.hid hB2
      have HBl := Lib.hid hbl
      have hnq : (!(ng x == ng y)) = ng (x * y) := ng_mul HX0.out HY0.out
      generalize hNg : ng (x * y) = q at *
      have HNG := Lib.hid hNg
      generalize tl M = r at *
      clear hv hd hl htr hBM hB0 hB1 hB2 hbl htim hkn hyl hNb hlN hmk e1 hlt hk hNg
      go_wp2_with fail
      go_region_held3 (fun w' => w'.cell? ⟨w.heap.size, 0, none⟩ = some (.bool (ng x)) ∧ w'.cell? ⟨w.heap.size + 1, 0, none⟩ = some (.bool (ng y)) ∧ w'.frozen? ⟨w.heap.size + 1 + 1, 0, none⟩ = false) (first | exact ⟨hk0 _ _, hk1 _ _, hk2 _ _⟩ | go_keep)
        ((go_at_call 73; refine HTr.out.mono ?_; rintro e w2 ⟨rfl, rfl⟩; skip))
      go_wp2_with fail
      have hB3 := (HB2.out.store2 (.bool q) (.slice (some ⟨w.heap.size + 1 + 1 + 1, 0, none⟩) r r))
      obtain ⟨h0, h1, _⟩ := cells2 hB3
      exact bodyPost_ret (v := .agg #[.bool q, .slice (some ⟨w.heap.size + 1 + 1 + 1, 0, none⟩) r r]) (by simp [results, Tryz.results52, go_sem, h0, h1]) rfl
        (RetW_def _ _ _ _ _ _ _ HNG.out.symm (HW.out.store2 HB2.out _ _) ((HBl.out.setCell (by simp <;> omega) _).setCell (by simp <;> omega) _ |>.drew))
end Go.Proofs.YtbkbeglmfhaleaaGreatDoor
/-
The program's join of two numbers and more. Conditions: as it says.
-/
set_option linter.unusedVariables false
set_option linter.unusedSimpArgs false
namespace Go.Proofs.YtbkbeglmfhaleaaGreatDoor
open Go.RowKit
attribute [local go_sem ↓] Go.wp_at_zero Go.wp_at_succ

/-- The wholes that are laid so far. -/
def JW (W : World) (g n : Nat) (xs : List D4) (k : Nat) : Prop := ∃ cs : Array Value, Blk W g 35 cs ∧ cs.size = n * 2 ∧ ∀ (j : Nat) (h : j < xs.length), j < k → cs[j * 2]? = some (.bool (ng (mant xs[j].d))) ∧ cs[j * 2 + 1]? = some (.slice xs[j].A xs[j].n xs[j].c)
/-- The powers that are laid so far. -/
def JP (W : World) (g n : Nat) (ps : List Nat) (k : Nat) : Prop := ∃ cs : Array Value, Blk W g 3 cs ∧ cs.size = n ∧ ∀ (j : Nat) (h : j < ps.length), j < k → cs[j]? = some (.int .i64 (ps[j] : Int))
theorem JW.below {B : Nat} {W W' : World} {g n k : Nat} {xs : List D4} (h : JW W g n xs k) (hb : Below B W W') (hg : g < B) : JW W' g n xs k := by
  obtain ⟨cs, h1, h2⟩ := h
  exact ⟨cs, h1.below hb hg, h2⟩
theorem JP.below {B : Nat} {W W' : World} {g n k : Nat} {ps : List Nat} (h : JP W g n ps k) (hb : Below B W W') (hg : g < B) : JP W' g n ps k := by
  obtain ⟨cs, h1, h2⟩ := h
  exact ⟨cs, h1.below hb hg, h2⟩
theorem JW.lt {W : World} {g n k : Nat} {xs : List D4} (h : JW W g n xs k) : g < W.heap.size := by
  obtain ⟨cs, h1, h2⟩ := h
  exact h1.lt
theorem JP.lt {W : World} {g n k : Nat} {ps : List Nat} (h : JP W g n ps k) : g < W.heap.size := by
  obtain ⟨cs, h1, h2⟩ := h
  exact h1.lt
theorem JW.cells {W : World} {g n k : Nat} {xs : List D4} (h : JW W g n xs k) (hk : k < n) : ∃ u v, W.cell? ⟨g, k * 2, none⟩ = some u ∧ W.cell? ⟨g, k * 2 + 1, none⟩ = some v ∧ W.frozen? ⟨g, k * 2, none⟩ = false ∧ W.frozen? ⟨g, k * 2 + 1, none⟩ = false := by
  obtain ⟨cs, h1, h2, _⟩ := h
  have a := h1.cell (k * 2)
  have b := h1.cell (k * 2 + 1)
  rw [Array.getElem?_eq_getElem (by omega)] at a b
  exact ⟨_, _, a, b, h1.frozen _, h1.frozen _⟩
theorem JW.step {W : World} {g n k : Nat} {xs : List D4} (h : JW W g n xs k) (hk : k < xs.length) (hn : xs.length = n) {x : D4} (hx : xs[k] = x) :
    JW ((W.setCell ⟨g, k * 2, none⟩ (.bool (ng (mant x.d)))).setCell ⟨g, k * 2 + 1, none⟩ (.slice x.A x.n x.c)) g n xs (k + 1) := by
  obtain ⟨cs, h1, h2, h3⟩ := h
  refine ⟨_, (h1.set_ _ _).set_ _ _, by simpa using h2, fun j hj hjk => ?_⟩
  by_cases e : j = k
  · subst e
    rw [hx]
    constructor
    · rw [Array.getElem?_setIfInBounds_ne (by omega), Array.getElem?_setIfInBounds_self_of_lt (by omega)]
    · rw [Array.getElem?_setIfInBounds_self_of_lt (by simp; omega)]
  · obtain ⟨a, b⟩ := h3 j hj (by omega)
    exact ⟨by rw [Array.getElem?_setIfInBounds_ne (by omega), Array.getElem?_setIfInBounds_ne (by omega)]; exact a, by rw [Array.getElem?_setIfInBounds_ne (by omega), Array.getElem?_setIfInBounds_ne (by omega)]; exact b⟩
theorem JW.other {W : World} {g n k : Nat} {xs : List D4} (h : JW W g n xs k) {p : Addr} (hp : g ≠ p.block) (u : Value) : JW (W.setCell p u) g n xs k := by
  obtain ⟨cs, h1, h2⟩ := h
  exact ⟨cs, h1.other hp u, h2⟩
theorem JP.cells {W : World} {g n k : Nat} {ps : List Nat} (h : JP W g n ps k) (hk : k < n) : ∃ u, W.cell? ⟨g, k, none⟩ = some u ∧ W.frozen? ⟨g, k, none⟩ = false := by
  obtain ⟨cs, h1, h2, _⟩ := h
  have a := h1.cell k
  rw [Array.getElem?_eq_getElem (by omega)] at a
  exact ⟨_, a, h1.frozen _⟩
theorem JP.step {W : World} {g n k : Nat} {ps : List Nat} (h : JP W g n ps k) (hk : k < ps.length) (hn : ps.length = n) {p : Nat} (hp : ps[k] = p) : JP (W.setCell ⟨g, k, none⟩ (.int .i64 (p : Int))) g n ps (k + 1) := by
  obtain ⟨cs, h1, h2, h3⟩ := h
  refine ⟨_, h1.set_ _ _, by simpa using h2, fun j hj hjk => ?_⟩
  by_cases e : j = k
  · subst e
    rw [hp, Array.getElem?_setIfInBounds_self_of_lt (by omega)]
  · rw [Array.getElem?_setIfInBounds_ne (by omega)]
    exact h3 j hj (by omega)
theorem JP.other {W : World} {g n k : Nat} {ps : List Nat} (h : JP W g n ps k) {p : Addr} (hp : g ≠ p.block) (u : Value) : JP (W.setCell p u) g n ps k := by
  obtain ⟨cs, h1, h2⟩ := h
  exact ⟨cs, h1.other hp u, h2⟩
theorem JP.at_ {W : World} {g n k : Nat} {ps : List Nat} (h : JP W g n ps k) {j : Nat} (hj : j < ps.length) (hk : j < k) : W.cell? ⟨g, j, none⟩ = some (.int .i64 (ps[j] : Int)) := by
  obtain ⟨cs, h1, h2, h3⟩ := h
  exact (h1.cell j).trans (h3 j hj hk)
theorem JP.pows {W : World} {g n : Nat} {ps : List Nat} (h : JP W g n ps n) (hn : ps.length = n) : Pows W g 0 ps := fun i hi => by
  have := h.at_ hi (by omega)
  rw [Nat.zero_add]; exact this
theorem JW.wholes {W : World} {g n : Nat} {xs : List D4} (h : JW W g n xs n) (hn : xs.length = n) (ho : Oks W xs) : Wholes W g 0 (mts (dds xs)) := fun i hi => by
  have hx : i < xs.length := by unfold mts dds at hi; simpa using hi
  obtain ⟨cs, h1, h2, h3⟩ := h
  obtain ⟨a, b⟩ := h3 i hx (by omega)
  have e : (mts (dds xs))[i]'hi = mant xs[i].d := by unfold mts dds; simp
  rw [e, Nat.zero_add]
  exact ⟨xs[i].A, xs[i].n, xs[i].c, (h1.cell _).trans a, (h1.cell _).trans b, (ho _ (List.getElem_mem hx)).1⟩
theorem tot_wl {T f m : Int} {k : Nat} (h : dy T f = dy m (-(k : Int))) (hf : -(k : Int) ≤ f) (hm : m.natAbs < 2 ^ (2 * k)) : wl T ≤ k := by
  obtain ⟨t, ht⟩ : ∃ t : Nat, f = -(k : Int) + t := ⟨(f + k).toNat, by omega⟩
  rw [ht, ← dy_pow, dy_eq] at h
  have e2 : ((2 : Int) ^ t).natAbs = 2 ^ t := by rw [Int.natAbs_pow]; rfl
  have h1 : T.natAbs ≤ m.natAbs := by
    rw [← h, Int.natAbs_mul, e2]
    exact Nat.le_mul_of_pos_right _ (Nat.two_pow_pos _)
  refine (wl_le T k).2 ?_
  have := two_q k
  omega
/-- What lies in a round of join, between its two stores. -/
def JM (W w : World) (ga gb n : Nat) (xs : List D4) (ps : List Nat) (k kp : Nat) (f : Int) (y : D4) : Prop :=
  JW W ga n xs k ∧ JP W gb n ps kp ∧ Blk W w.heap.size 37 #[.bool false, .slice none 0 0, .bool false, .slice none 0 0] ∧ Blk W (w.heap.size + 1) 35 #[.bool (ng f), .slice y.A' y.n' y.c'] ∧ Below w.heap.size w W
theorem JM.below {B : Nat} {W W' w : World} {ga gb n : Nat} {xs : List D4} {ps : List Nat} {k kp : Nat} {f : Int} {y : D4} (h : JM W w ga gb n xs ps k kp f y) (hb : Below B W W') (ha : ga < B) (hg : gb < B) (h1 : w.heap.size + 1 < B) : JM W' w ga gb n xs ps k kp f y :=
  ⟨h.1.below hb ha, h.2.1.below hb hg, h.2.2.1.below hb (by omega), h.2.2.2.1.below hb h1, h.2.2.2.2.trans (hb.mono (by omega))⟩
theorem JM.step1 {W w : World} {ga gb n : Nat} {xs : List D4} {ps : List Nat} {k kp : Nat} {f : Int} {y : D4} (h : JM W w ga gb n xs ps k kp f y) (hk : k < xs.length) (hn : xs.length = n) {x : D4} (hx : xs[k] = x) (hne : ga ≠ gb) (ha : w.heap.size + 1 < ga) :
    JM ((W.setCell ⟨ga, k * 2, none⟩ (.bool (ng (mant x.d)))).setCell ⟨ga, k * 2 + 1, none⟩ (.slice x.A x.n x.c)) w ga gb n xs ps (k + 1) kp f y :=
  ⟨h.1.step hk hn hx, (h.2.1.other (by exact Ne.symm hne) _).other (by exact Ne.symm hne) _, (h.2.2.1.other (by show w.heap.size ≠ ga; omega) _).other (by show w.heap.size ≠ ga; omega) _,
    (h.2.2.2.1.other (by show w.heap.size + 1 ≠ ga; omega) _).other (by show w.heap.size + 1 ≠ ga; omega) _, (h.2.2.2.2.setCell (by show w.heap.size ≤ ga; omega) _).setCell (by show w.heap.size ≤ ga; omega) _⟩
theorem JM.step2 {W w : World} {ga gb n : Nat} {xs : List D4} {ps : List Nat} {k kp : Nat} {f : Int} {y : D4} (h : JM W w ga gb n xs ps k kp f y) (hk : kp < ps.length) (hn : ps.length = n) {p : Nat} (hp : ps[kp] = p) (hne : ga ≠ gb) (hg : w.heap.size + 1 < gb) :
    JM (W.setCell ⟨gb, kp, none⟩ (.int .i64 (p : Int))) w ga gb n xs ps k (kp + 1) f y :=
  ⟨h.1.other (by exact hne) _, h.2.1.step hk hn hp, h.2.2.1.other (by show w.heap.size ≠ gb; omega) _, h.2.2.2.1.other (by show w.heap.size + 1 ≠ gb; omega) _, h.2.2.2.2.setCell (by show w.heap.size ≤ gb; omega) _⟩
set_option maxHeartbeats 8000000 in
set_option maxRecDepth 20000 in
theorem pjoin_walk (A : Option Addr) (n c : Nat) (xs : List D4) (f : Int) (w : World) (hn : xs.length = n) (h2 : 2 ≤ n) (hbig : n ≤ 65536) (hl : Dl w A xs) (ho : Oks w xs) (K : Nat) (hK : K ≤ 134217000) (hk : ∀ x ∈ xs, Sz K x.d)
    (hf0 : ∀ (h : 0 < xs.length), expo xs[0].d = f) (hf : ∀ x ∈ xs, f ≤ expo x.d) (hg : Glob w) :
    Calls Tryz.prog 48 #[.slice A n c] w (RetP (dysum (dds xs)) w) := by
  have h0x : 0 < xs.length := by omega
  obtain ⟨b, o, rfl, hblt, x0, x1, x2, x3⟩ := hl.at_ h0x
  have hf1 := hf0 h0x
  have hfo := (ho _ (List.getElem_mem h0x)).2
  have hfk := ((hk _ (List.getElem_mem h0x)).expo_).1
  rw [hf1] at x2 hfo hfk
  generalize hxx : xs[0] = y at *
  simp only [Nat.zero_mul, Nat.add_zero] at x0 x1 x2 x3
  have e0 : ((n : Int) == 0) = false := by simp; omega
  have e1 : ((n : Int) == 1) = false := by simp; omega
  have e2 : (0 : Int) < (n : Int) := by omega
  have hmk := fun V => run_makew n (by omega) V
  have hmi := fun V => run_makei n (by omega) V
  have HL := Lib.hid hl
  have HO := Lib.hid ho
  have HN := Lib.hid hn
  have HK := Lib.hid hk
  have HF := Lib.hid hf
  have HG := Lib.hid hg
  have HFo := Lib.hid hfo
  have HFk := Lib.hid hfk
  clear hl ho hn hk hf hg hf0 hf1 hfo hfk hxx h0x
  go_enter Tryz.func48, Tryz.ntmps48
  go_upto_region 7 with fail
  go_cut [4, 5] (fun a d wx => ∃ ga gb : Nat, a = .slice (some ⟨ga, 0, none⟩) n n ∧ d = .slice (some ⟨gb, 0, none⟩) n n ∧ ga ≠ gb ∧ w.heap.size + 1 < ga ∧ w.heap.size + 1 < gb ∧ JW wx ga n xs 0 ∧ JP wx gb n (pws f (dds xs)) 0 ∧
    Blk wx w.heap.size 37 #[.bool false, .slice none 0 0, .bool false, .slice none 0 0] ∧ Blk wx (w.heap.size + 1) 35 #[.bool (ng f), .slice y.A' y.n' y.c'] ∧ Below w.heap.size w wx)
  case first =>
    have hB0 := (Blk.new w 37 #[.bool false, .slice none 0 0, .bool false, .slice none 0 0]).alloc (.cells #[.bool (ng f), .slice y.A' y.n' y.c'] 35)
    have hB1 := Blk.new_ (w.alloc (.cells #[.bool false, .slice none 0 0, .bool false, .slice none 0 0] 37)) 35 #[.bool (ng f), .slice y.A' y.n' y.c'] (w.heap.size + 1) (by simp)
    have hbl := ((Below.refl w.heap.size w).alloc (Nat.le_refl _) (.cells #[.bool false, .slice none 0 0, .bool false, .slice none 0 0] 37)).alloc (by simp) (.cells #[.bool (ng f), .slice y.A' y.n' y.c'] 35)
    have hsz : ((w.alloc (.cells #[.bool false, .slice none 0 0, .bool false, .slice none 0 0] 37)).alloc (.cells #[.bool (ng f), .slice y.A' y.n' y.c'] 35)).heap.size = w.heap.size + 1 + 1 := by simp
    generalize (w.alloc (.cells #[.bool false, .slice none 0 0, .bool false, .slice none 0 0] 37)).alloc (.cells #[.bool (ng f), .slice y.A' y.n' y.c'] 35) = V at *
    have HB0 := Lib.hid hB0
    have HB1 := Lib.hid hB1
    have HBl := Lib.hid hbl
    have HSz := Lib.hid hsz
    clear hB0 hB1 hbl x0 x1 x2 x3 hsz
    go_region_with (fail)
    all_goals
      go_wp2_with fail
      go_meet
    · exact ⟨V.heap.size, V.heap.size + 1, rfl, rfl, by omega, by have := HSz.out; omega, by have := HSz.out; omega, ⟨_, ((Blk.new V _ _).alloc _).drew, by rw [size_madeCells], fun j _ hj => absurd hj (Nat.not_lt_zero _)⟩, ⟨_, (Blk.new_ (V.alloc _) _ _ _ (by simp)).drew, by rw [size_madeCells], fun j _ hj => absurd hj (Nat.not_lt_zero _)⟩,
        ((HB0.out.alloc _).alloc _).drew, ((HB1.out.alloc _).alloc _).drew, ((HBl.out.alloc (by have := HSz.out; omega) _).alloc (by have := HSz.out; simp; omega) _).drew⟩
    · exact ⟨V.heap.size + 1, V.heap.size, rfl, rfl, by omega, by have := HSz.out; omega, by have := HSz.out; omega, ⟨_, (Blk.new_ (V.alloc _) _ _ _ (by simp)).drew, by rw [size_madeCells], fun j _ hj => absurd hj (Nat.not_lt_zero _)⟩, ⟨_, ((Blk.new V _ _).alloc _).drew, by rw [size_madeCells], fun j _ hj => absurd hj (Nat.not_lt_zero _)⟩,
        ((HB0.out.alloc _).alloc _).drew, ((HB1.out.alloc _).alloc _).drew, ((HBl.out.alloc (by have := HSz.out; omega) _).alloc (by have := HSz.out; simp; omega) _).drew⟩
  case rest =>
    obtain ⟨ga, gb, rfl, rfl, hne, hga, hgb, hW, hP, hBr, hBf, hbw⟩ := hcut
    have HW0 := Lib.hid hW
    have HP0 := Lib.hid hP
    have HBr0 := Lib.hid hBr
    have HBf0 := Lib.hid hBf
    have HBw0 := Lib.hid hbw
    have HA := Lib.hid hga
    have HB := Lib.hid hgb
    clear hW hP hBr hBf hbw hmk hmi hga hgb x0 x1 x2 x3
    go_wp2_with fail
    go_loopw [30] (fun i wr => ∃ k : Nat, k ≤ n ∧ i = .int .i64 k ∧ JW wr ga n xs k ∧ JP wr gb n (pws f (dds xs)) k ∧ Blk wr w.heap.size 37 #[.bool false, .slice none 0 0, .bool false, .slice none 0 0] ∧ Blk wr (w.heap.size + 1) 35 #[.bool (ng f), .slice y.A' y.n' y.c'] ∧ Below w.heap.size w wr) (fun i _ => n - (intOf i).toNat)
    case atStart => exact ⟨0, Nat.zero_le _, rfl, HW0.out, HP0.out, HBr0.out, HBf0.out, HBw0.out⟩
    case round =>
      obtain ⟨k, hkn, rfl, hJW, hJP, hBr, hBf, hb⟩ := hrel
      by_cases hlt : k < n
      · have hkx : k < xs.length := by rw [HN.out]; exact hlt
        obtain ⟨b', o', hA, hblt', x0, x1, x2, x3⟩ := (HL.out.below hb).at_ hkx
        injection hA with hA
        injection hA with hA1 hA2
        subst hA1 hA2
        have hxo := (HO.out _ (List.getElem_mem hkx)).below hb
        have hxk := (HK.out _ (List.getElem_mem hkx)).expo_
        have hxf := HF.out _ (List.getElem_mem hkx)
        have hfk := HFk.out
        have hpl : k < (pws f (dds xs)).length := by unfold pws dds; simpa using hkx
        have hpx : (pws f (dds xs))[k]'hpl = (expo xs[k].d - f).toNat := by unfold pws dds; simp
        generalize hxx : xs[k] = x at *
        obtain ⟨p, hp⟩ : ∃ p : Nat, (expo x.d - f).toNat = p := ⟨_, rfl⟩
        have hpz : expo x.d + -f = (p : Int) := by omega
        have hp9 : (p : Int) < 17179869184 := by omega
        have hMi := fun W (hW : Below wr.heap.size wr W) => (minus_any y.A' y.n' y.c' f W HFo.out.1).mono (R' := RetW (-f) W) fun e w' h => ⟨_, _, _, h.1, (HFo.out.below (hb.trans (hW.mono hb.size)) |>.neg).below h.2, h.2⟩
        have hPl := fun B q e W (hW : Below wr.heap.size wr W) (hw : Wh W B q e (-f)) => plus_any x.A' x.n' x.c' (expo x.d) B q e (-f) W (hxo.2.below hW) hw (by have := wl_small (k := expo x.d) (by omega) (by omega); omega) (by have := wl_small (k := -f) (by omega) (by omega); omega)
        have hCl := fun B q e W (hw : Wh W B q e (p : Int)) => clamp_any B q e (p : Int) 0 17179869184 W hw (by omega)
        rw [show min (max (p : Int) 0) 17179869184 = (p : Int) by omega] at hCl
        rw [hpz] at hPl
        have hJM : JM wr w ga gb n xs (pws f (dds xs)) k k f y := ⟨hJW, hJP, hBr, hBf, hb⟩
        have HMi := Lib.hid hMi
        have HPl := Lib.hid hPl
        have HXo := Lib.hid hxo
        have HBb := Lib.hid hb
        have HPx := Lib.hid (hpx.trans hp)
        have HXX := Lib.hid hxx
        have e4 : (k : Int) < (n : Int) := by omega
        have hga := hJW.lt
        have hgb := hJP.lt
        have hz1 := hBf.lt
        have HJ0 := Lib.hid (hJM.below ((Below.refl wr.heap.size wr).alloc (Nat.le_refl _) (.cells #[.bool (ng (mant x.d)), .slice x.A x.n x.c, .bool (ng (expo x.d)), .slice x.A' x.n' x.c'] 37)) hga hgb hz1)
        have HV := Lib.hid ((Below.refl wr.heap.size wr).alloc (Nat.le_refl _) (.cells #[.bool (ng (mant x.d)), .slice x.A x.n x.c, .bool (ng (expo x.d)), .slice x.A' x.n' x.c'] 37))
        have HB7 := Lib.hid (Blk.new wr 37 #[.bool (ng (mant x.d)), .slice x.A x.n x.c, .bool (ng (expo x.d)), .slice x.A' x.n' x.c'])
        have hps : ((p : Int) == 17179869184) = false := by simp; omega
        have hps2 : ¬ (p : Int) = 17179869184 := by omega
        clear hMi hPl hJM hxo hb hpx hxx hJW hJP hBr hBf hxf hxk hp hpz hfk
        go_wp2_with fail
        have hVs := HV.out.size
        have hVg : (wr.alloc (.cells #[.bool (ng (mant x.d)), .slice x.A x.n x.c, .bool (ng (expo x.d)), .slice x.A' x.n' x.c'] 37)).heap.size = wr.heap.size + 1 := by simp
        generalize wr.alloc (.cells #[.bool (ng (mant x.d)), .slice x.A x.n x.c, .bool (ng (expo x.d)), .slice x.A' x.n' x.c'] 37) = V at *
        generalize wr.heap.size = z7 at *
        generalize hL : (17179869184 : Int) = L at *
        have HCl := Lib.hid hCl
        clear hCl hp9 hL
        obtain ⟨HGa, HGb, HZ1⟩ : ga < V.heap.size ∧ gb < V.heap.size ∧ w.heap.size + 1 < V.heap.size := ⟨by omega, by omega, by omega⟩
        refine wp_region_inv [35, 36, 37, 38, 39, 40, 41, 42, 43, 44, 45, 46, 47, 48] (fun d s W => (d 0 = true → s 35 = .slice (some ⟨ga, 0, none⟩) n n) ∧ (d 1 = true → s 36 = .int .i64 (k : Int)) ∧ (d 2 = true → s 37 = .slice (some ⟨gb, 0, none⟩) n n) ∧ (d 3 = true → s 38 = .int .i64 (k : Int)) ∧ (d 4 = true → s 39 = .pointer (some ⟨z7, 0, none⟩)) ∧ (d 5 = true → s 40 = .agg #[.bool (ng (mant x.d)), .slice x.A x.n x.c]) ∧ (d 6 = true → s 41 = .pointer (some ⟨z7, 2, none⟩)) ∧ (d 7 = true → s 42 = .agg #[.bool (ng (expo x.d)), .slice x.A' x.n' x.c']) ∧ (d 8 = true → s 43 = .agg #[.bool (ng f), .slice y.A' y.n' y.c']) ∧ (d 9 = true → (d 13 = false → WV W (s 44) (-f))) ∧ (d 10 = true → (d 13 = false → WV W (s 45) (p : Int))) ∧ (d 11 = true → s 46 = .int .i64 (p : Int)) ∧ (d 12 = true → s 47 = .pointer (some ⟨ga, k * 2, none⟩)) ∧ (d 14 = true → s 48 = .pointer (some ⟨gb, k, none⟩)) ∧ (d 5 = true → d 4 = true) ∧ (d 7 = true → d 6 = true) ∧ (d 9 = true → d 8 = true) ∧ (d 10 = true → d 6 = true ∧ d 7 = true ∧ d 8 = true ∧ d 9 = true) ∧ (d 11 = true → d 6 = true ∧ d 7 = true ∧ d 8 = true ∧ d 9 = true ∧ d 10 = true) ∧ (d 12 = true → d 0 = true ∧ d 1 = true ∧ d 6 = true ∧ d 7 = true ∧ d 8 = true ∧ d 9 = true ∧ d 10 = true ∧ d 11 = true) ∧ (d 13 = true → d 0 = true ∧ d 1 = true ∧ d 4 = true ∧ d 5 = true ∧ d 6 = true ∧ d 7 = true ∧ d 8 = true ∧ d 9 = true ∧ d 10 = true ∧ d 11 = true ∧ d 12 = true) ∧ (d 14 = true → d 0 = true ∧ d 1 = true ∧ d 2 = true ∧ d 3 = true ∧ d 4 = true ∧ d 5 = true ∧ d 6 = true ∧ d 7 = true ∧ d 8 = true ∧ d 9 = true ∧ d 10 = true ∧ d 11 = true ∧ d 12 = true ∧ d 13 = true) ∧ (d 15 = true → d 0 = true ∧ d 1 = true ∧ d 2 = true ∧ d 3 = true ∧ d 4 = true ∧ d 5 = true ∧ d 6 = true ∧ d 7 = true ∧ d 8 = true ∧ d 9 = true ∧ d 10 = true ∧ d 11 = true ∧ d 12 = true ∧ d 13 = true ∧ d 14 = true) ∧ ((d 13 = false → Below V.heap.size V W) ∧ (d 13 = true → d 15 = false → JM W w ga gb n xs (pws f (dds xs)) (k + 1) k f y) ∧ (d 15 = true → JM W w ga gb n xs (pws f (dds xs)) (k + 1) (k + 1) f y)))
          rfl (by kernel_rfl) ?_ ?_ ?_
        · exact ⟨by simp, by simp, by simp, by simp, by simp, by simp, by simp, by simp, by simp, by simp, by simp, by simp, by simp, by simp, by simp, by simp, by simp, by simp, by simp, by simp, by simp, by simp, by simp, ⟨fun _ => (Below.refl _ _).drew, fun h => by simp at h, fun h => by simp at h⟩⟩
        · refine ⟨?_, ?_, ?_, ?_, ?_, ?_, ?_, ?_, ?_, ?_, ?_, ?_, ?_, ?_, ?_, ?_, trivial⟩
          all_goals
            intro d s W hJ hfr hd hdep
            simp only [List.mem_cons, forall_eq_or_imp, List.not_mem_nil, false_implies, implies_true, and_true, Region.binds] at hdep
            have f3 := hfr 3 (by decide)
            have f4 := hfr 4 (by decide)
            have f5 := hfr 5 (by decide)
            have f6 := hfr 6 (by decide)
            have f7 := hfr 7 (by decide)
            simp at f3 f4 f5 f6 f7 hdep
            obtain ⟨h0, h1, h2, h3, h4, h5, h6, h7, h8, h9, h10, h11, h12, h14, x0, x1, x2, x3, x4, x5, x6, x7, x8, hT⟩ := hJ
          · have hl : d 15 = false := by
              cases h : d 15
              · rfl
              · have := x8 h; simp [hd] at this
            unfold OpSteps
            have hl3 : d 13 = false := by
              cases h : d 13
              · rfl
              · have := x6 h; simp [hd] at this
            replace hT := hT.1 hl3
            simp [go_sem, evS, f4]
            exact ⟨fun _ => by simp [sput], fun h => by simpa [sput] using h1 (by simpa [did] using h), fun h => by simpa [sput] using h2 (by simpa [did] using h), fun h => by simpa [sput] using h3 (by simpa [did] using h), fun h => by simpa [sput] using h4 (by simpa [did] using h), fun h => by simpa [sput] using h5 (by simpa [did] using h), fun h => by simpa [sput] using h6 (by simpa [did] using h), fun h => by simpa [sput] using h7 (by simpa [did] using h), fun h => by simpa [sput] using h8 (by simpa [did] using h), fun h h3 => by simpa [sput] using ((h9 (by simpa [did] using h)) (by simpa [did] using h3)), fun h h3 => by simpa [sput] using ((h10 (by simpa [did] using h)) (by simpa [did] using h3)), fun h => by simpa [sput] using h11 (by simpa [did] using h), fun h => by simpa [sput] using h12 (by simpa [did] using h), fun h => by simpa [sput] using h14 (by simpa [did] using h), fun h => by have := x0 (by simpa [did] using h); simp [did, this], fun h => by have := x1 (by simpa [did] using h); simp [did, this], fun h => by have := x2 (by simpa [did] using h); simp [did, this], fun h => by have := x3 (by simpa [did] using h); simp [did, this], fun h => by have := x4 (by simpa [did] using h); simp [did, this], fun h => by have := x5 (by simpa [did] using h); simp [did, this], fun h => by have := x6 (by simpa [did] using h); simp [did, this], fun h => by have := x7 (by simpa [did] using h); simp [did, this], fun h => by have := x8 (by simpa [did] using h); simp [did, this], ⟨fun _ => hT, fun h => by simp [did, hl3] at h, fun h => by simp [did, hl] at h⟩⟩
          · have hl : d 15 = false := by
              cases h : d 15
              · rfl
              · have := x8 h; simp [hd] at this
            unfold OpSteps
            have hl3 : d 13 = false := by
              cases h : d 13
              · rfl
              · have := x6 h; simp [hd] at this
            replace hT := hT.1 hl3
            simp [go_sem, evS, f6]
            exact ⟨fun h => by simpa [sput] using h0 (by simpa [did] using h), fun _ => by simp [sput], fun h => by simpa [sput] using h2 (by simpa [did] using h), fun h => by simpa [sput] using h3 (by simpa [did] using h), fun h => by simpa [sput] using h4 (by simpa [did] using h), fun h => by simpa [sput] using h5 (by simpa [did] using h), fun h => by simpa [sput] using h6 (by simpa [did] using h), fun h => by simpa [sput] using h7 (by simpa [did] using h), fun h => by simpa [sput] using h8 (by simpa [did] using h), fun h h3 => by simpa [sput] using ((h9 (by simpa [did] using h)) (by simpa [did] using h3)), fun h h3 => by simpa [sput] using ((h10 (by simpa [did] using h)) (by simpa [did] using h3)), fun h => by simpa [sput] using h11 (by simpa [did] using h), fun h => by simpa [sput] using h12 (by simpa [did] using h), fun h => by simpa [sput] using h14 (by simpa [did] using h), fun h => by have := x0 (by simpa [did] using h); simp [did, this], fun h => by have := x1 (by simpa [did] using h); simp [did, this], fun h => by have := x2 (by simpa [did] using h); simp [did, this], fun h => by have := x3 (by simpa [did] using h); simp [did, this], fun h => by have := x4 (by simpa [did] using h); simp [did, this], fun h => by have := x5 (by simpa [did] using h); simp [did, this], fun h => by have := x6 (by simpa [did] using h); simp [did, this], fun h => by have := x7 (by simpa [did] using h); simp [did, this], fun h => by have := x8 (by simpa [did] using h); simp [did, this], ⟨fun _ => hT, fun h => by simp [did, hl3] at h, fun h => by simp [did, hl] at h⟩⟩
          · have hl : d 15 = false := by
              cases h : d 15
              · rfl
              · have := x8 h; simp [hd] at this
            unfold OpSteps
            simp [go_sem, evS, f5]
            exact ⟨fun h => by simpa [sput] using h0 (by simpa [did] using h), fun h => by simpa [sput] using h1 (by simpa [did] using h), fun _ => by simp [sput], fun h => by simpa [sput] using h3 (by simpa [did] using h), fun h => by simpa [sput] using h4 (by simpa [did] using h), fun h => by simpa [sput] using h5 (by simpa [did] using h), fun h => by simpa [sput] using h6 (by simpa [did] using h), fun h => by simpa [sput] using h7 (by simpa [did] using h), fun h => by simpa [sput] using h8 (by simpa [did] using h), fun h h3 => by simpa [sput] using ((h9 (by simpa [did] using h)) (by simpa [did] using h3)), fun h h3 => by simpa [sput] using ((h10 (by simpa [did] using h)) (by simpa [did] using h3)), fun h => by simpa [sput] using h11 (by simpa [did] using h), fun h => by simpa [sput] using h12 (by simpa [did] using h), fun h => by simpa [sput] using h14 (by simpa [did] using h), fun h => by have := x0 (by simpa [did] using h); simp [did, this], fun h => by have := x1 (by simpa [did] using h); simp [did, this], fun h => by have := x2 (by simpa [did] using h); simp [did, this], fun h => by have := x3 (by simpa [did] using h); simp [did, this], fun h => by have := x4 (by simpa [did] using h); simp [did, this], fun h => by have := x5 (by simpa [did] using h); simp [did, this], fun h => by have := x6 (by simpa [did] using h); simp [did, this], fun h => by have := x7 (by simpa [did] using h); simp [did, this], fun h => by have := x8 (by simpa [did] using h); simp [did, this], ⟨fun h => hT.1 (by simpa [did] using h), fun h h' => hT.2.1 (by simpa [did] using h) (by simpa [did] using h'), fun h => hT.2.2 (by simpa [did] using h)⟩⟩
          · have hl : d 15 = false := by
              cases h : d 15
              · rfl
              · have := x8 h; simp [hd] at this
            unfold OpSteps
            simp [go_sem, evS, f6]
            exact ⟨fun h => by simpa [sput] using h0 (by simpa [did] using h), fun h => by simpa [sput] using h1 (by simpa [did] using h), fun h => by simpa [sput] using h2 (by simpa [did] using h), fun _ => by simp [sput], fun h => by simpa [sput] using h4 (by simpa [did] using h), fun h => by simpa [sput] using h5 (by simpa [did] using h), fun h => by simpa [sput] using h6 (by simpa [did] using h), fun h => by simpa [sput] using h7 (by simpa [did] using h), fun h => by simpa [sput] using h8 (by simpa [did] using h), fun h h3 => by simpa [sput] using ((h9 (by simpa [did] using h)) (by simpa [did] using h3)), fun h h3 => by simpa [sput] using ((h10 (by simpa [did] using h)) (by simpa [did] using h3)), fun h => by simpa [sput] using h11 (by simpa [did] using h), fun h => by simpa [sput] using h12 (by simpa [did] using h), fun h => by simpa [sput] using h14 (by simpa [did] using h), fun h => by have := x0 (by simpa [did] using h); simp [did, this], fun h => by have := x1 (by simpa [did] using h); simp [did, this], fun h => by have := x2 (by simpa [did] using h); simp [did, this], fun h => by have := x3 (by simpa [did] using h); simp [did, this], fun h => by have := x4 (by simpa [did] using h); simp [did, this], fun h => by have := x5 (by simpa [did] using h); simp [did, this], fun h => by have := x6 (by simpa [did] using h); simp [did, this], fun h => by have := x7 (by simpa [did] using h); simp [did, this], fun h => by have := x8 (by simpa [did] using h); simp [did, this], ⟨fun h => hT.1 (by simpa [did] using h), fun h h' => hT.2.1 (by simpa [did] using h) (by simpa [did] using h'), fun h => hT.2.2 (by simpa [did] using h)⟩⟩
          · have hl : d 15 = false := by
              cases h : d 15
              · rfl
              · have := x8 h; simp [hd] at this
            unfold OpSteps
            have hl3 : d 13 = false := by
              cases h : d 13
              · rfl
              · have := x6 h; simp [hd] at this
            replace hT := hT.1 hl3
            simp [go_sem, evS, f7]
            exact ⟨fun h => by simpa [sput] using h0 (by simpa [did] using h), fun h => by simpa [sput] using h1 (by simpa [did] using h), fun h => by simpa [sput] using h2 (by simpa [did] using h), fun h => by simpa [sput] using h3 (by simpa [did] using h), fun _ => by simp [sput], fun h => by simpa [sput] using h5 (by simpa [did] using h), fun h => by simpa [sput] using h6 (by simpa [did] using h), fun h => by simpa [sput] using h7 (by simpa [did] using h), fun h => by simpa [sput] using h8 (by simpa [did] using h), fun h h3 => by simpa [sput] using ((h9 (by simpa [did] using h)) (by simpa [did] using h3)), fun h h3 => by simpa [sput] using ((h10 (by simpa [did] using h)) (by simpa [did] using h3)), fun h => by simpa [sput] using h11 (by simpa [did] using h), fun h => by simpa [sput] using h12 (by simpa [did] using h), fun h => by simpa [sput] using h14 (by simpa [did] using h), fun h => by have := x0 (by simpa [did] using h); simp [did, this], fun h => by have := x1 (by simpa [did] using h); simp [did, this], fun h => by have := x2 (by simpa [did] using h); simp [did, this], fun h => by have := x3 (by simpa [did] using h); simp [did, this], fun h => by have := x4 (by simpa [did] using h); simp [did, this], fun h => by have := x5 (by simpa [did] using h); simp [did, this], fun h => by have := x6 (by simpa [did] using h); simp [did, this], fun h => by have := x7 (by simpa [did] using h); simp [did, this], fun h => by have := x8 (by simpa [did] using h); simp [did, this], ⟨fun _ => hT, fun h => by simp [did, hl3] at h, fun h => by simp [did, hl] at h⟩⟩
          · have hl : d 15 = false := by
              cases h : d 15
              · rfl
              · have := x8 h; simp [hd] at this
            have g4 := h4 (by simp [hdep])
            unfold OpSteps
            have hl3 : d 13 = false := by
              cases h : d 13
              · rfl
              · have := x6 h; simp [hd] at this
            replace hT := hT.1 hl3
            obtain ⟨p0, p1, p2, p3, _⟩ := cells4 (HB7.out.below hT HB7.out.lt)
            simp [go_sem, evS, g4, p0, p1, p2, p3]
            exact ⟨fun h => by simpa [sput] using h0 (by simpa [did] using h), fun h => by simpa [sput] using h1 (by simpa [did] using h), fun h => by simpa [sput] using h2 (by simpa [did] using h), fun h => by simpa [sput] using h3 (by simpa [did] using h), fun h => by simpa [sput] using h4 (by simpa [did] using h), fun _ => by simp [sput], fun h => by simpa [sput] using h6 (by simpa [did] using h), fun h => by simpa [sput] using h7 (by simpa [did] using h), fun h => by simpa [sput] using h8 (by simpa [did] using h), fun h h3 => by simpa [sput] using ((h9 (by simpa [did] using h)) (by simpa [did] using h3)), fun h h3 => by simpa [sput] using ((h10 (by simpa [did] using h)) (by simpa [did] using h3)), fun h => by simpa [sput] using h11 (by simpa [did] using h), fun h => by simpa [sput] using h12 (by simpa [did] using h), fun h => by simpa [sput] using h14 (by simpa [did] using h), fun _ => by simp [did, hdep], fun h => by have := x1 (by simpa [did] using h); simp [did, this], fun h => by have := x2 (by simpa [did] using h); simp [did, this], fun h => by have := x3 (by simpa [did] using h); simp [did, this], fun h => by have := x4 (by simpa [did] using h); simp [did, this], fun h => by have := x5 (by simpa [did] using h); simp [did, this], fun h => by have := x6 (by simpa [did] using h); simp [did, this], fun h => by have := x7 (by simpa [did] using h); simp [did, this], fun h => by have := x8 (by simpa [did] using h); simp [did, this], ⟨fun _ => hT, fun h => by simp [did, hl3] at h, fun h => by simp [did, hl] at h⟩⟩
          · have hl : d 15 = false := by
              cases h : d 15
              · rfl
              · have := x8 h; simp [hd] at this
            unfold OpSteps
            have hl3 : d 13 = false := by
              cases h : d 13
              · rfl
              · have := x6 h; simp [hd] at this
            replace hT := hT.1 hl3
            simp [go_sem, evS, f7]
            exact ⟨fun h => by simpa [sput] using h0 (by simpa [did] using h), fun h => by simpa [sput] using h1 (by simpa [did] using h), fun h => by simpa [sput] using h2 (by simpa [did] using h), fun h => by simpa [sput] using h3 (by simpa [did] using h), fun h => by simpa [sput] using h4 (by simpa [did] using h), fun h => by simpa [sput] using h5 (by simpa [did] using h), fun _ => by simp [sput], fun h => by simpa [sput] using h7 (by simpa [did] using h), fun h => by simpa [sput] using h8 (by simpa [did] using h), fun h h3 => by simpa [sput] using ((h9 (by simpa [did] using h)) (by simpa [did] using h3)), fun h h3 => by simpa [sput] using ((h10 (by simpa [did] using h)) (by simpa [did] using h3)), fun h => by simpa [sput] using h11 (by simpa [did] using h), fun h => by simpa [sput] using h12 (by simpa [did] using h), fun h => by simpa [sput] using h14 (by simpa [did] using h), fun h => by have := x0 (by simpa [did] using h); simp [did, this], fun h => by have := x1 (by simpa [did] using h); simp [did, this], fun h => by have := x2 (by simpa [did] using h); simp [did, this], fun h => by have := x3 (by simpa [did] using h); simp [did, this], fun h => by have := x4 (by simpa [did] using h); simp [did, this], fun h => by have := x5 (by simpa [did] using h); simp [did, this], fun h => by have := x6 (by simpa [did] using h); simp [did, this], fun h => by have := x7 (by simpa [did] using h); simp [did, this], fun h => by have := x8 (by simpa [did] using h); simp [did, this], ⟨fun _ => hT, fun h => by simp [did, hl3] at h, fun h => by simp [did, hl] at h⟩⟩
          · have hl : d 15 = false := by
              cases h : d 15
              · rfl
              · have := x8 h; simp [hd] at this
            have g6 := h6 (by simp [hdep])
            unfold OpSteps
            have hl3 : d 13 = false := by
              cases h : d 13
              · rfl
              · have := x6 h; simp [hd] at this
            replace hT := hT.1 hl3
            obtain ⟨p0, p1, p2, p3, _⟩ := cells4 (HB7.out.below hT HB7.out.lt)
            simp [go_sem, evS, g6, p0, p1, p2, p3]
            exact ⟨fun h => by simpa [sput] using h0 (by simpa [did] using h), fun h => by simpa [sput] using h1 (by simpa [did] using h), fun h => by simpa [sput] using h2 (by simpa [did] using h), fun h => by simpa [sput] using h3 (by simpa [did] using h), fun h => by simpa [sput] using h4 (by simpa [did] using h), fun h => by simpa [sput] using h5 (by simpa [did] using h), fun h => by simpa [sput] using h6 (by simpa [did] using h), fun _ => by simp [sput], fun h => by simpa [sput] using h8 (by simpa [did] using h), fun h h3 => by simpa [sput] using ((h9 (by simpa [did] using h)) (by simpa [did] using h3)), fun h h3 => by simpa [sput] using ((h10 (by simpa [did] using h)) (by simpa [did] using h3)), fun h => by simpa [sput] using h11 (by simpa [did] using h), fun h => by simpa [sput] using h12 (by simpa [did] using h), fun h => by simpa [sput] using h14 (by simpa [did] using h), fun h => by have := x0 (by simpa [did] using h); simp [did, this], fun _ => by simp [did, hdep], fun h => by have := x2 (by simpa [did] using h); simp [did, this], fun h => by have := x3 (by simpa [did] using h); simp [did, this], fun h => by have := x4 (by simpa [did] using h); simp [did, this], fun h => by have := x5 (by simpa [did] using h); simp [did, this], fun h => by have := x6 (by simpa [did] using h); simp [did, this], fun h => by have := x7 (by simpa [did] using h); simp [did, this], fun h => by have := x8 (by simpa [did] using h); simp [did, this], ⟨fun _ => hT, fun h => by simp [did, hl3] at h, fun h => by simp [did, hl] at h⟩⟩
          · have hl : d 15 = false := by
              cases h : d 15
              · rfl
              · have := x8 h; simp [hd] at this
            unfold OpSteps
            have hl3 : d 13 = false := by
              cases h : d 13
              · rfl
              · have := x6 h; simp [hd] at this
            replace hT := hT.1 hl3
            have hbf9 := HJ0.out.2.2.2.1.below hT HZ1
            obtain ⟨p0, p1, _⟩ := cells2 hbf9
            simp [go_sem, evS, f3, p0, p1]
            exact ⟨fun h => by simpa [sput] using h0 (by simpa [did] using h), fun h => by simpa [sput] using h1 (by simpa [did] using h), fun h => by simpa [sput] using h2 (by simpa [did] using h), fun h => by simpa [sput] using h3 (by simpa [did] using h), fun h => by simpa [sput] using h4 (by simpa [did] using h), fun h => by simpa [sput] using h5 (by simpa [did] using h), fun h => by simpa [sput] using h6 (by simpa [did] using h), fun h => by simpa [sput] using h7 (by simpa [did] using h), fun _ => by simp [sput], fun h h3 => by simpa [sput] using ((h9 (by simpa [did] using h)) (by simpa [did] using h3)), fun h h3 => by simpa [sput] using ((h10 (by simpa [did] using h)) (by simpa [did] using h3)), fun h => by simpa [sput] using h11 (by simpa [did] using h), fun h => by simpa [sput] using h12 (by simpa [did] using h), fun h => by simpa [sput] using h14 (by simpa [did] using h), fun h => by have := x0 (by simpa [did] using h); simp [did, this], fun h => by have := x1 (by simpa [did] using h); simp [did, this], fun h => by have := x2 (by simpa [did] using h); simp [did, this], fun h => by have := x3 (by simpa [did] using h); simp [did, this], fun h => by have := x4 (by simpa [did] using h); simp [did, this], fun h => by have := x5 (by simpa [did] using h); simp [did, this], fun h => by have := x6 (by simpa [did] using h); simp [did, this], fun h => by have := x7 (by simpa [did] using h); simp [did, this], fun h => by have := x8 (by simpa [did] using h); simp [did, this], ⟨fun _ => hT, fun h => by simp [did, hl3] at h, fun h => by simp [did, hl] at h⟩⟩
          · have hl : d 15 = false := by
              cases h : d 15
              · rfl
              · have := x8 h; simp [hd] at this
            have g8 := h8 (by simp [hdep])
            unfold OpSteps
            have hl3 : d 13 = false := by
              cases h : d 13
              · rfl
              · have := x6 h; simp [hd] at this
            replace hT := hT.1 hl3
            simp [go_sem, evS, g8]
            refine (HMi.out W (HV.out.trans (hT.mono hVs))).mono ?_
            rintro e W' ⟨A9, n9, c9, rfl, hv, hb⟩
            refine ⟨_, rfl, ?_⟩
            exact ⟨fun h => by simpa [sput] using h0 (by simpa [did] using h), fun h => by simpa [sput] using h1 (by simpa [did] using h), fun h => by simpa [sput] using h2 (by simpa [did] using h), fun h => by simpa [sput] using h3 (by simpa [did] using h), fun h => by simpa [sput] using h4 (by simpa [did] using h), fun h => by simpa [sput] using h5 (by simpa [did] using h), fun h => by simpa [sput] using h6 (by simpa [did] using h), fun h => by simpa [sput] using h7 (by simpa [did] using h), fun h => by simpa [sput] using h8 (by simpa [did] using h), fun _ => fun _ => ⟨_, _, _, by simp [sput], hv⟩, fun h h3 => by simpa [sput] using ((h10 (by simpa [did] using h)) (by simpa [did] using h3)).below hb, fun h => by simpa [sput] using h11 (by simpa [did] using h), fun h => by simpa [sput] using h12 (by simpa [did] using h), fun h => by simpa [sput] using h14 (by simpa [did] using h), fun h => by have := x0 (by simpa [did] using h); simp [did, this], fun h => by have := x1 (by simpa [did] using h); simp [did, this], fun _ => by simp [did, hdep], fun h => by have := x3 (by simpa [did] using h); simp [did, this], fun h => by have := x4 (by simpa [did] using h); simp [did, this], fun h => by have := x5 (by simpa [did] using h); simp [did, this], fun h => by have := x6 (by simpa [did] using h); simp [did, this], fun h => by have := x7 (by simpa [did] using h); simp [did, this], fun h => by have := x8 (by simpa [did] using h); simp [did, this], ⟨fun _ => below_np hT hb, fun h => by simp [did, hl3] at h, fun h => by simp [did, hl] at h⟩⟩
          · have hl : d 15 = false := by
              cases h : d 15
              · rfl
              · have := x8 h; simp [hd] at this
            have g7 := h7 (by simp [hdep])
            have g9 := h9 (by simp [hdep])
            unfold OpSteps
            have hl3 : d 13 = false := by
              cases h : d 13
              · rfl
              · have := x6 h; simp [hd] at this
            replace hT := hT.1 hl3
            obtain ⟨A8, n8, c8, g8v, hw8⟩ := g9 hl3
            simp [go_sem, evS, g7, g8v]
            refine (HPl.out A8 n8 c8 W (HV.out.trans (hT.mono hVs)) hw8).mono ?_
            rintro e W' ⟨A9, n9, c9, rfl, hv, hb⟩
            refine ⟨_, rfl, ?_⟩
            exact ⟨fun h => by simpa [sput] using h0 (by simpa [did] using h), fun h => by simpa [sput] using h1 (by simpa [did] using h), fun h => by simpa [sput] using h2 (by simpa [did] using h), fun h => by simpa [sput] using h3 (by simpa [did] using h), fun h => by simpa [sput] using h4 (by simpa [did] using h), fun h => by simpa [sput] using h5 (by simpa [did] using h), fun h => by simpa [sput] using h6 (by simpa [did] using h), fun h => by simpa [sput] using h7 (by simpa [did] using h), fun h => by simpa [sput] using h8 (by simpa [did] using h), fun h h3 => by simpa [sput] using ((h9 (by simpa [did] using h)) (by simpa [did] using h3)).below hb, fun _ => fun _ => ⟨_, _, _, by simp [sput], hv⟩, fun h => by simpa [sput] using h11 (by simpa [did] using h), fun h => by simpa [sput] using h12 (by simpa [did] using h), fun h => by simpa [sput] using h14 (by simpa [did] using h), fun h => by have := x0 (by simpa [did] using h); simp [did, this], fun h => by have := x1 (by simpa [did] using h); simp [did, this], fun h => by have := x2 (by simpa [did] using h); simp [did, this], fun _ => by have y7 := x1 (by simp [hdep]); have y9 := x2 (by simp [hdep]); simp [did, hdep, y7, y9], fun h => by have := x4 (by simpa [did] using h); simp [did, this], fun h => by have := x5 (by simpa [did] using h); simp [did, this], fun h => by have := x6 (by simpa [did] using h); simp [did, this], fun h => by have := x7 (by simpa [did] using h); simp [did, this], fun h => by have := x8 (by simpa [did] using h); simp [did, this], ⟨fun _ => below_np hT hb, fun h => by simp [did, hl3] at h, fun h => by simp [did, hl] at h⟩⟩
          · have hl : d 15 = false := by
              cases h : d 15
              · rfl
              · have := x8 h; simp [hd] at this
            have g10 := h10 (by simp [hdep])
            unfold OpSteps
            have hl3 : d 13 = false := by
              cases h : d 13
              · rfl
              · have := x6 h; simp [hd] at this
            replace hT := hT.1 hl3
            obtain ⟨A8, n8, c8, g8v, hw8⟩ := g10 hl3
            simp [go_sem, evS, g8v]
            refine (HCl.out A8 n8 c8 W hw8).mono ?_
            rintro e W' ⟨rfl, hb⟩
            refine ⟨_, rfl, ?_⟩
            exact ⟨fun h => by simpa [sput] using h0 (by simpa [did] using h), fun h => by simpa [sput] using h1 (by simpa [did] using h), fun h => by simpa [sput] using h2 (by simpa [did] using h), fun h => by simpa [sput] using h3 (by simpa [did] using h), fun h => by simpa [sput] using h4 (by simpa [did] using h), fun h => by simpa [sput] using h5 (by simpa [did] using h), fun h => by simpa [sput] using h6 (by simpa [did] using h), fun h => by simpa [sput] using h7 (by simpa [did] using h), fun h => by simpa [sput] using h8 (by simpa [did] using h), fun h h3 => by simpa [sput] using ((h9 (by simpa [did] using h)) (by simpa [did] using h3)).below hb, fun h h3 => by simpa [sput] using ((h10 (by simpa [did] using h)) (by simpa [did] using h3)).below hb, fun _ => by simp [sput], fun h => by simpa [sput] using h12 (by simpa [did] using h), fun h => by simpa [sput] using h14 (by simpa [did] using h), fun h => by have := x0 (by simpa [did] using h); simp [did, this], fun h => by have := x1 (by simpa [did] using h); simp [did, this], fun h => by have := x2 (by simpa [did] using h); simp [did, this], fun h => by have := x3 (by simpa [did] using h); simp [did, this], fun _ => by have y10 := x3 (by simp [hdep]); simp [did, hdep, y10], fun h => by have := x5 (by simpa [did] using h); simp [did, this], fun h => by have := x6 (by simpa [did] using h); simp [did, this], fun h => by have := x7 (by simpa [did] using h); simp [did, this], fun h => by have := x8 (by simpa [did] using h); simp [did, this], ⟨fun _ => below_np hT hb, fun h => by simp [did, hl3] at h, fun h => by simp [did, hl] at h⟩⟩
          · have hl : d 15 = false := by
              cases h : d 15
              · rfl
              · have := x8 h; simp [hd] at this
            have g0 := h0 (by simp [hdep])
            have g1 := h1 (by simp [hdep])
            have g11 := h11 (by simp [hdep])
            unfold OpSteps
            have hl3 : d 13 = false := by
              cases h : d 13
              · rfl
              · have := x6 h; simp [hd] at this
            replace hT := hT.1 hl3
            simp [go_sem, evS, g0, g1, g11, e4]
            exact ⟨fun h => by simpa [sput] using h0 (by simpa [did] using h), fun h => by simpa [sput] using h1 (by simpa [did] using h), fun h => by simpa [sput] using h2 (by simpa [did] using h), fun h => by simpa [sput] using h3 (by simpa [did] using h), fun h => by simpa [sput] using h4 (by simpa [did] using h), fun h => by simpa [sput] using h5 (by simpa [did] using h), fun h => by simpa [sput] using h6 (by simpa [did] using h), fun h => by simpa [sput] using h7 (by simpa [did] using h), fun h => by simpa [sput] using h8 (by simpa [did] using h), fun h h3 => by simpa [sput] using ((h9 (by simpa [did] using h)) (by simpa [did] using h3)), fun h h3 => by simpa [sput] using ((h10 (by simpa [did] using h)) (by simpa [did] using h3)), fun h => by simpa [sput] using h11 (by simpa [did] using h), fun _ => by simp [sput], fun h => by simpa [sput] using h14 (by simpa [did] using h), fun h => by have := x0 (by simpa [did] using h); simp [did, this], fun h => by have := x1 (by simpa [did] using h); simp [did, this], fun h => by have := x2 (by simpa [did] using h); simp [did, this], fun h => by have := x3 (by simpa [did] using h); simp [did, this], fun h => by have := x4 (by simpa [did] using h); simp [did, this], fun _ => by have y11 := x4 (by simp [hdep]); simp [did, hdep, y11], fun h => by have := x6 (by simpa [did] using h); simp [did, this], fun h => by have := x7 (by simpa [did] using h); simp [did, this], fun h => by have := x8 (by simpa [did] using h); simp [did, this], ⟨fun _ => hT, fun h => by simp [did, hl3] at h, fun h => by simp [did, hl] at h⟩⟩
          · have hl : d 15 = false := by
              cases h : d 15
              · rfl
              · have := x8 h; simp [hd] at this
            have g12 := h12 (by simp [hdep])
            have g5 := h5 (by simp [hdep])
            have g11 := h11 (by simp [hdep])
            unfold OpSteps
            replace hT := hT.1 hd
            have hj := HJ0.out.below hT HGa HGb HZ1
            obtain ⟨u8, v8, k0, k1, fr0, fr1⟩ := hj.1.cells (by omega)
            simp [go_sem, evS, g12, g5, k0, k1, fr0, fr1]
            exact ⟨fun h => by simpa [sput] using h0 (by simpa [did] using h), fun h => by simpa [sput] using h1 (by simpa [did] using h), fun h => by simpa [sput] using h2 (by simpa [did] using h), fun h => by simpa [sput] using h3 (by simpa [did] using h), fun h => by simpa [sput] using h4 (by simpa [did] using h), fun h => by simpa [sput] using h5 (by simpa [did] using h), fun h => by simpa [sput] using h6 (by simpa [did] using h), fun h => by simpa [sput] using h7 (by simpa [did] using h), fun h => by simpa [sput] using h8 (by simpa [did] using h), fun _ h3 => by simp [did] at h3, fun _ h3 => by simp [did] at h3, fun h => by simpa [sput] using h11 (by simpa [did] using h), fun h => by simpa [sput] using h12 (by simpa [did] using h), fun h => by simpa [sput] using h14 (by simpa [did] using h), fun h => by have := x0 (by simpa [did] using h); simp [did, this], fun h => by have := x1 (by simpa [did] using h); simp [did, this], fun h => by have := x2 (by simpa [did] using h); simp [did, this], fun h => by have := x3 (by simpa [did] using h); simp [did, this], fun h => by have := x4 (by simpa [did] using h); simp [did, this], fun h => by have := x5 (by simpa [did] using h); simp [did, this], fun _ => by have y5 := x0 (by simp [hdep]); have y11 := x4 (by simp [hdep]); have y12 := x5 (by simp [hdep]); simp [did, hdep, y5, y11, y12], fun h => by have := x7 (by simpa [did] using h); simp [did, this], fun h => by have := x8 (by simpa [did] using h); simp [did, this], ⟨fun h => by simp [did] at h, fun _ _ => hj.step1 hkx HN.out HXX.out hne HA.out, fun h => by simp [did, hl] at h⟩⟩
          · have hl : d 15 = false := by
              cases h : d 15
              · rfl
              · have := x8 h; simp [hd] at this
            have g2 := h2 (by simp [hdep])
            have g3 := h3 (by simp [hdep])
            unfold OpSteps
            simp [go_sem, evS, g2, g3, e4]
            exact ⟨fun h => by simpa [sput] using h0 (by simpa [did] using h), fun h => by simpa [sput] using h1 (by simpa [did] using h), fun h => by simpa [sput] using h2 (by simpa [did] using h), fun h => by simpa [sput] using h3 (by simpa [did] using h), fun h => by simpa [sput] using h4 (by simpa [did] using h), fun h => by simpa [sput] using h5 (by simpa [did] using h), fun h => by simpa [sput] using h6 (by simpa [did] using h), fun h => by simpa [sput] using h7 (by simpa [did] using h), fun h => by simpa [sput] using h8 (by simpa [did] using h), fun h h3 => by simpa [sput] using ((h9 (by simpa [did] using h)) (by simpa [did] using h3)), fun h h3 => by simpa [sput] using ((h10 (by simpa [did] using h)) (by simpa [did] using h3)), fun h => by simpa [sput] using h11 (by simpa [did] using h), fun h => by simpa [sput] using h12 (by simpa [did] using h), fun _ => by simp [sput], fun h => by have := x0 (by simpa [did] using h); simp [did, this], fun h => by have := x1 (by simpa [did] using h); simp [did, this], fun h => by have := x2 (by simpa [did] using h); simp [did, this], fun h => by have := x3 (by simpa [did] using h); simp [did, this], fun h => by have := x4 (by simpa [did] using h); simp [did, this], fun h => by have := x5 (by simpa [did] using h); simp [did, this], fun h => by have := x6 (by simpa [did] using h); simp [did, this], fun _ => by have y13 := x6 (by simp [hdep]); simp [did, hdep, y13], fun h => by have := x8 (by simpa [did] using h); simp [did, this], ⟨fun h => hT.1 (by simpa [did] using h), fun h h' => hT.2.1 (by simpa [did] using h) (by simpa [did] using h'), fun h => hT.2.2 (by simpa [did] using h)⟩⟩
          · have g14 := h14 (by simp [hdep])
            have g11 := h11 (by simp [hdep])
            unfold OpSteps
            have hj := hT.2.1 (by simp [hdep]) hd
            obtain ⟨u8, k0, fr0⟩ := hj.2.1.cells (by omega)
            simp [go_sem, evS, g14, g11, k0, fr0]
            exact ⟨fun h => by simpa [sput] using h0 (by simpa [did] using h), fun h => by simpa [sput] using h1 (by simpa [did] using h), fun h => by simpa [sput] using h2 (by simpa [did] using h), fun h => by simpa [sput] using h3 (by simpa [did] using h), fun h => by simpa [sput] using h4 (by simpa [did] using h), fun h => by simpa [sput] using h5 (by simpa [did] using h), fun h => by simpa [sput] using h6 (by simpa [did] using h), fun h => by simpa [sput] using h7 (by simpa [did] using h), fun h => by simpa [sput] using h8 (by simpa [did] using h), fun _ h3 => by simp [did, hdep] at h3, fun _ h3 => by simp [did, hdep] at h3, fun h => by simpa [sput] using h11 (by simpa [did] using h), fun h => by simpa [sput] using h12 (by simpa [did] using h), fun h => by simpa [sput] using h14 (by simpa [did] using h), fun h => by have := x0 (by simpa [did] using h); simp [did, this], fun h => by have := x1 (by simpa [did] using h); simp [did, this], fun h => by have := x2 (by simpa [did] using h); simp [did, this], fun h => by have := x3 (by simpa [did] using h); simp [did, this], fun h => by have := x4 (by simpa [did] using h); simp [did, this], fun h => by have := x5 (by simpa [did] using h); simp [did, this], fun h => by have := x6 (by simpa [did] using h); simp [did, this], fun h => by have := x7 (by simpa [did] using h); simp [did, this], fun _ => by have y11 := x4 (by simp [hdep]); have y13 := x6 (by simp [hdep]); have y14 := x7 (by simp [hdep]); simp [did, hdep, y11, y13, y14], ⟨fun h => by simp [did, hdep] at h, fun _ h => by simp [did] at h, fun _ => hj.step2 hpl (by unfold pws dds; simp [HN.out]) HPx.out hne HB.out⟩⟩
        intro d s W hJ hd
        obtain ⟨h0, h1, h2, h3, h4, h5, h6, h7, h8, h9, h10, h11, h12, h14, x0, x1, x2, x3, x4, x5, x6, x7, x8, hT⟩ := hJ
        have hj := hT.2.2 (hd 15 (by simp))
        have HJ := Lib.hid hj
        clear h0 h1 h2 h3 h4 h5 h6 h7 h8 h9 h10 h11 h12 h14 x0 x1 x2 x3 x4 x5 x6 x7 x8 hT hd
        simp [setAll]
        generalize s 35 = s35
        generalize s 36 = s36
        generalize s 37 = s37
        generalize s 38 = s38
        generalize s 39 = s39
        generalize s 40 = s40
        generalize s 41 = s41
        generalize s 42 = s42
        generalize s 43 = s43
        generalize s 44 = s44
        generalize s 45 = s45
        generalize s 46 = s46
        generalize s 47 = s47
        generalize s 48 = s48
        have hcell := hj.2.1.at_ hpl (by omega)
        rw [HPx.out] at hcell
        clear hj
        go_wp2_with fail
        go_roundw
        case rel => exact ⟨k + 1, by omega, by go_num, HJ.out.1, HJ.out.2.1, HJ.out.2.2.1, HJ.out.2.2.2.1, HJ.out.2.2.2.2⟩
        case measure => simp [intOf] <;> omega
      · obtain rfl : k = n := by omega
        have e4 : ¬ (k : Int) < (k : Int) := by omega
        have hds : (mts (dds xs)).length = k := by unfold mts dds; simp [HN.out]
        have hps : (pws f (dds xs)).length = k := by unfold pws dds; simp [HN.out]
        have hWh := hJW.wholes HN.out (HO.out.below hb)
        have hPo := hJP.pows hps
        have hzb : ∀ z ∈ mts (dds xs), wl z ≤ 137438953472 := by
          intro z hz
          unfold mts dds at hz
          simp only [List.map_map, List.mem_map, Function.comp] at hz
          obtain ⟨x, hx, rfl⟩ := hz
          exact ((HK.out x hx).fitp (by omega)).1
        have hpb : ∀ q ∈ pws f (dds xs), q ≤ 17592186044416 := by
          intro q hq
          unfold pws dds at hq
          simp only [List.map_map, List.mem_map, Function.comp] at hq
          obtain ⟨x, hx, rfl⟩ := hq
          have h1 := ((HK.out x hx).expo_).1
          have h2 := HFk.out
          omega
        have hff : ∀ d ∈ dds xs, f ≤ expo d := by
          intro d hd
          unfold dds at hd
          obtain ⟨x, hx, rfl⟩ := List.mem_map.1 hd
          exact HF.out x hx
        have htot := join_tot (dds xs) f hff
        have hdl : (dds xs).length = k := by unfold dds; simp [HN.out]
        rw [hdl] at htot
        have hsz : Sz (K + k) (dysum (dds xs)) := Sz.sum (dds xs) (by
          intro d hd
          unfold dds at hd
          obtain ⟨x, hx, rfl⟩ := List.mem_map.1 hd
          exact HK.out x hx) k (by omega)
        obtain ⟨m, hm1, hm2⟩ := hsz
        have hwt := tot_wl (htot.trans hm1) (by have := HFk.out; omega) hm2
        have hSum := fun W (hW : Below wr.heap.size wr W) => sum_any ga 0 k gb 0 k k (mts (dds xs)) (pws f (dds xs)) W hds hps (by omega) (Nat.le_refl _) (Nat.le_refl _) (hWh.below hW) (hPo.below hW) hzb hpb (by omega)
        have hCan := fun B q e W (hW : Below wr.heap.size wr W) (hw : Wh W B q e (tot (mts (dds xs)) (pws f (dds xs)) k)) => (canonical_any B q e (tot (mts (dds xs)) (pws f (dds xs)) k) y.A' y.n' y.c' f W hw (HFo.out.below (hb.trans (hW.mono hb.size))) (by rw [hw.1]; omega) (by rw [HFo.out.1]; have := wl_small (k := f) (by have := HFk.out; omega) (by have := HFk.out; omega); omega) ((HG.out.below hb).below hW)).mono (R' := RetP (dy (tot (mts (dds xs)) (pws f (dds xs)) k) f) W) fun e w' h => h.retp
        rw [htot] at hCan
        generalize tot (mts (dds xs)) (pws f (dds xs)) k = T at *
        generalize dysum (dds xs) = D at *
        have HSum := Lib.hid hSum
        have HCan := Lib.hid hCan
        have HBr9 := Lib.hid hBr
        have HBf9 := Lib.hid hBf
        have HBb9 := Lib.hid hb
        have hz0 := hBr.lt
        clear hSum hCan hBr hBf hb hwt hm1 hm2 htot hdl hff hpb hzb hPo hWh hds hps hJW hJP
        go_wp2_with fail
        refine wp_region_inv [56, 57, 58, 59, 60] (fun d s W => (d 0 = true → s 56 = .slice (some ⟨ga, 0, none⟩) k k) ∧ (d 1 = true → s 57 = .slice (some ⟨gb, 0, none⟩) k k) ∧ (d 2 = true → WV W (s 58) (T)) ∧ (d 3 = true → s 59 = .agg #[.bool (ng f), .slice y.A' y.n' y.c']) ∧ (d 4 = true → PV W (s 60) D) ∧ (d 2 = true → d 0 = true ∧ d 1 = true) ∧ (d 4 = true → d 0 = true ∧ d 1 = true ∧ d 2 = true ∧ d 3 = true) ∧ (d 5 = true → d 0 = true ∧ d 1 = true ∧ d 2 = true ∧ d 3 = true ∧ d 4 = true) ∧ ((d 5 = false → Below wr.heap.size wr W) ∧ (d 5 = true → PBx W (w.heap.size) (D) ∧ Below w.heap.size w W)))
          rfl (by kernel_rfl) ?_ ?_ ?_
        · exact ⟨by simp, by simp, by simp, by simp, by simp, by simp, by simp, by simp, ⟨fun _ => (Below.refl _ _).drew, fun h => by simp at h⟩⟩
        · refine ⟨?_, ?_, ?_, ?_, ?_, ?_, trivial⟩
          all_goals
            intro d s W hJ hfr hd hdep
            simp only [List.mem_cons, forall_eq_or_imp, List.not_mem_nil, false_implies, implies_true, and_true, Region.binds] at hdep
            have f2 := hfr 2 (by decide)
            have f3 := hfr 3 (by decide)
            have f4 := hfr 4 (by decide)
            have f5 := hfr 5 (by decide)
            simp at f2 f3 f4 f5 hdep
            obtain ⟨h0, h1, h2, h3, h4, x0, x1, x2, hT⟩ := hJ
          · have hl : d 5 = false := by
              cases h : d 5
              · rfl
              · have := x2 h; simp [hd] at this
            replace hT := hT.1 hl
            unfold OpSteps
            simp [go_sem, evS, f4]
            exact ⟨fun _ => by simp [sput], fun h => by simpa [sput] using h1 (by simpa [did] using h), fun h => by simpa [sput] using h2 (by simpa [did] using h), fun h => by simpa [sput] using h3 (by simpa [did] using h), fun h => by simpa [sput] using h4 (by simpa [did] using h), fun h => by have := x0 (by simpa [did] using h); simp [did, this], fun h => by have := x1 (by simpa [did] using h); simp [did, this], fun h => by have := x2 (by simpa [did] using h); simp [did, this], ⟨fun _ => hT, fun h => by simp [did, hl] at h⟩⟩
          · have hl : d 5 = false := by
              cases h : d 5
              · rfl
              · have := x2 h; simp [hd] at this
            replace hT := hT.1 hl
            unfold OpSteps
            simp [go_sem, evS, f5]
            exact ⟨fun h => by simpa [sput] using h0 (by simpa [did] using h), fun _ => by simp [sput], fun h => by simpa [sput] using h2 (by simpa [did] using h), fun h => by simpa [sput] using h3 (by simpa [did] using h), fun h => by simpa [sput] using h4 (by simpa [did] using h), fun h => by have := x0 (by simpa [did] using h); simp [did, this], fun h => by have := x1 (by simpa [did] using h); simp [did, this], fun h => by have := x2 (by simpa [did] using h); simp [did, this], ⟨fun _ => hT, fun h => by simp [did, hl] at h⟩⟩
          · have hl : d 5 = false := by
              cases h : d 5
              · rfl
              · have := x2 h; simp [hd] at this
            replace hT := hT.1 hl
            have g0 := h0 (by simp [hdep])
            have g1 := h1 (by simp [hdep])
            unfold OpSteps
            simp [go_sem, evS, g0, g1]
            refine (HSum.out W hT).mono ?_
            rintro e W' ⟨A9, n9, c9, rfl, hv, hb⟩
            refine ⟨_, rfl, ?_⟩
            exact ⟨fun h => by simpa [sput] using h0 (by simpa [did] using h), fun h => by simpa [sput] using h1 (by simpa [did] using h), fun _ => ⟨_, _, _, by simp [sput], hv⟩, fun h => by simpa [sput] using h3 (by simpa [did] using h), fun h => by simpa [sput] using (h4 (by simpa [did] using h)).below hb, fun _ => by simp [did, hdep], fun h => by have := x1 (by simpa [did] using h); simp [did, this], fun h => by have := x2 (by simpa [did] using h); simp [did, this], ⟨fun _ => below_np hT hb, fun h => by simp [did, hl] at h⟩⟩
          · have hl : d 5 = false := by
              cases h : d 5
              · rfl
              · have := x2 h; simp [hd] at this
            replace hT := hT.1 hl
            unfold OpSteps
            obtain ⟨p0, p1, _⟩ := cells2 (HBf9.out.below hT HBf9.out.lt)
            simp [go_sem, evS, f3, p0, p1]
            exact ⟨fun h => by simpa [sput] using h0 (by simpa [did] using h), fun h => by simpa [sput] using h1 (by simpa [did] using h), fun h => by simpa [sput] using h2 (by simpa [did] using h), fun _ => by simp [sput], fun h => by simpa [sput] using h4 (by simpa [did] using h), fun h => by have := x0 (by simpa [did] using h); simp [did, this], fun h => by have := x1 (by simpa [did] using h); simp [did, this], fun h => by have := x2 (by simpa [did] using h); simp [did, this], ⟨fun _ => hT, fun h => by simp [did, hl] at h⟩⟩
          · have hl : d 5 = false := by
              cases h : d 5
              · rfl
              · have := x2 h; simp [hd] at this
            replace hT := hT.1 hl
            have g2 := h2 (by simp [hdep])
            have g3 := h3 (by simp [hdep])
            unfold OpSteps
            obtain ⟨A8, n8, c8, g8v, hw8⟩ := g2
            simp [go_sem, evS, g3, g8v]
            refine (HCan.out A8 n8 c8 W hT hw8).mono ?_
            rintro e W' ⟨v9, rfl, hv, hb⟩
            refine ⟨_, rfl, ?_⟩
            exact ⟨fun h => by simpa [sput] using h0 (by simpa [did] using h), fun h => by simpa [sput] using h1 (by simpa [did] using h), fun h => by simpa [sput] using (h2 (by simpa [did] using h)).below hb, fun h => by simpa [sput] using h3 (by simpa [did] using h), fun _ => by simpa [sput] using hv, fun h => by have := x0 (by simpa [did] using h); simp [did, this], fun _ => by have y2 := x0 (by simp [hdep]); simp [did, hdep, y2], fun h => by have := x2 (by simpa [did] using h); simp [did, this], ⟨fun _ => below_np hT hb, fun h => by simp [did, hl] at h⟩⟩
          · have g4 := h4 (by simp [hdep])
            unfold OpSteps
            replace hT := hT.1 hd
            obtain ⟨A9, n9, c9, A8, n8, c8, gv, hD9⟩ := g4
            have hB9 := HBr9.out.below hT HBr9.out.lt
            obtain ⟨k0, k1, k2, k3, fr0, fr1, fr2, fr3⟩ := cells4 hB9
            simp [go_sem, evS, f2, gv, fr0, fr1, fr2, fr3, k0, k1, k2, k3]
            exact ⟨fun h => by simpa [sput] using h0 (by simpa [did] using h), fun h => by simpa [sput] using h1 (by simpa [did] using h), fun h => by simpa [sput] using (h2 (by simpa [did] using h)).store4 hB9 _ _ _ _, fun h => by simpa [sput] using h3 (by simpa [did] using h), fun h => by simpa [sput] using (h4 (by simpa [did] using h)).store4 hB9 _ _ _ _, fun h => by have := x0 (by simpa [did] using h); simp [did, this], fun h => by have := x1 (by simpa [did] using h); simp [did, this], fun _ => by have y4 := x1 (by simp [hdep]); simp [did, hdep, y4], ⟨fun h => by simp [did] at h, fun _ => ⟨pbx_store hB9 hD9, (((((HBb9.out.trans (hT.mono HBb9.out.size)).setCell (p := ⟨w.heap.size, 0, none⟩) (by simp <;> omega) _).setCell (p := ⟨w.heap.size, 1, none⟩) (by simp <;> omega) _).setCell (p := ⟨w.heap.size, 2, none⟩) (by simp <;> omega) _).setCell (p := ⟨w.heap.size, 3, none⟩) (by simp <;> omega) _)⟩⟩⟩
        intro d s W hJ hd
        obtain ⟨h0, h1, h2, h3, h4, x0, x1, x2, hT⟩ := hJ
        obtain ⟨hBx, hBl⟩ := hT.2 (hd 5 (by simp))
        have HBx := Lib.hid hBx
        have HBl9 := Lib.hid hBl
        clear h0 h1 h2 h3 h4 x0 x1 x2 hT hd hBx hBl
        simp [setAll]
        generalize s 56 = s56
        generalize s 57 = s57
        generalize s 58 = s58
        generalize s 59 = s59
        generalize s 60 = s60
        go_wp2_with fail
        obtain ⟨p9, hp1, hp2, hp3⟩ := HBx.out
        change Blk _ w.heap.size 37 #[.bool (ng (mant p9.d)), .slice p9.A p9.n p9.c, .bool (ng (expo p9.d)), .slice p9.A' p9.n' p9.c'] at hp3
        obtain ⟨k0, k1, k2, k3, _⟩ := cells4 hp3
        rw [← hp1]
        exact bodyPost_ret (v := .agg #[.bool (ng (mant p9.d)), .slice p9.A p9.n p9.c, .bool (ng (expo p9.d)), .slice p9.A' p9.n' p9.c']) (by simp [results, Tryz.results48, go_sem, k0, k1, k2, k3]) rfl
          (RetD.retp (RetD_def _ _ _ _ _ _ _ _ _ _ _ _ _ rfl rfl rfl rfl hp2.1 hp2.2 HBl9.out))
end Go.Proofs.YtbkbeglmfhaleaaGreatDoor
/-
The program's join, of any numbers whose exponents rise. Conditions: the numbers lie in few digits.
-/
set_option linter.unusedVariables false
namespace Go.Proofs.YtbkbeglmfhaleaaGreatDoor
open Go.RowKit

theorem pjoin_any (A : Option Addr) (n c : Nat) (xs : List D4) (w : World) (hn : xs.length = n) (hbig : n ≤ 65536) (hl : Dl w A xs) (ho : Oks w xs) (K : Nat) (hK : K ≤ 134217000) (hk : ∀ x ∈ xs, Sz K x.d) (hr : Rising (dds xs)) (hg : Glob w) :
    Calls Tryz.prog 48 #[.slice A n c] w (RetP (dysum (dds xs)) w) := by
  match xs, hn with
  | [], hn =>
    simp only [List.length_nil] at hn
    subst hn
    exact pjoin_nil A c w
  | [x], hn =>
    simp only [List.length_cons, List.length_nil] at hn
    subst hn
    have := pjoin_one A c x w hl (ho x List.mem_cons_self)
    have e : dysum (dds [x]) = x.d := by show x.d + 0 = x.d; exact add_dz _
    rw [e]
    exact this
  | x :: y :: xs, hn =>
    have h2 : 2 ≤ n := by rw [← hn]; simp
    refine pjoin_walk A n c (x :: y :: xs) (expo x.d) w hn h2 hbig hl ho K hK hk (fun _ => rfl) ?_ hg
    intro z hz
    rcases List.mem_cons.1 hz with rfl | hz
    · exact Int.le_refl _
    · have h1 : (x.d :: dds (y :: xs)).Pairwise fun a b => expo a ≤ expo b := hr
      exact (List.pairwise_cons.1 h1).1 z.d (List.mem_map.2 ⟨z, hz, rfl⟩)
end Go.Proofs.YtbkbeglmfhaleaaGreatDoor
/-
Contracts of Go's library at this program's structs, out of the library's shelf. Conditions: as each says.
-/
namespace Go.Proofs
open Go.Shelf
def Tryz.idxD_ren : Go.Shelf.Ren := ⟨fun | 6 => 86 | n => n, fun | 22 => 24 | 23 => 37 | 25 => 82 | 3 => 3 | 0 => 0 | 4 => 4 | n => n, fun | n => n⟩
theorem Tryz.idxD : Go.Proofs.SlLaysH0.n6 Tryz.prog Tryz.idxD_ren := {
  mixed := by kernel_rfl
  f6 := ⟨Tryz.f86.name, by decide, Tryz.func86.trans (congrArg some (by kernel_rfl))⟩
  t0 := Tryz.underlying0
  a0 := Tryz.isAgg0
  z0 := Tryz.sizeOf0
  v0 := Tryz.zeroValue0
  t3 := Tryz.underlying3
  a3 := Tryz.isAgg3
  z3 := Tryz.sizeOf3
  v3 := Tryz.zeroValue3
  t4 := Tryz.underlying4
  a4 := Tryz.isAgg4
  z4 := Tryz.sizeOf4
  v4 := Tryz.zeroValue4
  t22 := Tryz.underlying24
  a22 := Tryz.isAgg24
  z22 := Tryz.sizeOf24
  v22 := Tryz.zeroValue24
  t25 := Tryz.underlying82
  a25 := Tryz.isAgg82
  z25 := Tryz.sizeOf82
  v25 := Tryz.zeroValue82 }
def Tryz.contD_ren : Go.Shelf.Ren := ⟨fun | 8 => 49 | 6 => 86 | n => n, fun | 22 => 24 | 23 => 37 | 25 => 82 | 4 => 4 | 3 => 3 | 0 => 0 | n => n, fun | n => n⟩
theorem Tryz.contD : Go.Proofs.SlLaysH0.n8 Tryz.prog Tryz.contD_ren := {
  mixed := by kernel_rfl
  f6 := ⟨Tryz.f86.name, by decide, Tryz.func86.trans (congrArg some (by kernel_rfl))⟩
  f8 := ⟨Tryz.f49.name, by decide, Tryz.func49.trans (congrArg some (by kernel_rfl))⟩
  t0 := Tryz.underlying0
  a0 := Tryz.isAgg0
  z0 := Tryz.sizeOf0
  v0 := Tryz.zeroValue0
  t3 := Tryz.underlying3
  a3 := Tryz.isAgg3
  z3 := Tryz.sizeOf3
  v3 := Tryz.zeroValue3
  t4 := Tryz.underlying4
  a4 := Tryz.isAgg4
  z4 := Tryz.sizeOf4
  v4 := Tryz.zeroValue4
  t22 := Tryz.underlying24
  a22 := Tryz.isAgg24
  z22 := Tryz.sizeOf24
  v22 := Tryz.zeroValue24
  t25 := Tryz.underlying82
  a25 := Tryz.isAgg82
  z25 := Tryz.sizeOf82
  v25 := Tryz.zeroValue82 }
def Tryz.sortD_ren : Go.Shelf.Ren := ⟨fun | 6 => 83 | 15 => 107 | 14 => 106 | 28 => 135 | 29 => 96 | 20 => 127 | 21 => 128 | 22 => 129 | 23 => 130 | 24 => 131 | 25 => 132 | 26 => 133 | 27 => 134 | 46 => 144 | 47 => 145 | 48 => 146 | 49 => 147 | 50 => 148 | 57 => 154 | n => n, fun | 22 => 24 | 24 => 37 | 25 => 111 | 3 => 3 | 39 => 116 | 0 => 0 | 53 => 147 | 55 => 58 | 4 => 4 | 46 => 156 | 45 => 155 | 50 => 160 | 5 => 5 | 9 => 9 | 66 => 169 | 70 => 173 | 76 => 182 | 77 => 59 | n => n, fun | n => n⟩
theorem Tryz.sortD : Go.Proofs.SlLaysF0.n6 Tryz.prog Tryz.sortD_ren := {
  mixed := by kernel_rfl
  f6 := ⟨Tryz.f83.name, by decide, Tryz.func83.trans (congrArg some (by kernel_rfl))⟩
  f14 := ⟨Tryz.f106.name, by decide, Tryz.func106.trans (congrArg some (by kernel_rfl))⟩
  f15 := Tryz.func107.trans (congrArg some (by kernel_rfl))
  f20 := ⟨Tryz.f127.name, by decide, Tryz.func127.trans (congrArg some (by kernel_rfl))⟩
  f21 := ⟨Tryz.f128.name, by decide, Tryz.func128.trans (congrArg some (by kernel_rfl))⟩
  f22 := ⟨Tryz.f129.name, by decide, Tryz.func129.trans (congrArg some (by kernel_rfl))⟩
  f23 := ⟨Tryz.f130.name, by decide, Tryz.func130.trans (congrArg some (by kernel_rfl))⟩
  f24 := ⟨Tryz.f131.name, by decide, Tryz.func131.trans (congrArg some (by kernel_rfl))⟩
  f25 := ⟨Tryz.f132.name, by decide, Tryz.func132.trans (congrArg some (by kernel_rfl))⟩
  f26 := ⟨Tryz.f133.name, by decide, Tryz.func133.trans (congrArg some (by kernel_rfl))⟩
  f27 := ⟨Tryz.f134.name, by decide, Tryz.func134.trans (congrArg some (by kernel_rfl))⟩
  f28 := Tryz.func135.trans (congrArg some (by kernel_rfl))
  f29 := Tryz.func96.trans (congrArg some (by kernel_rfl))
  f46 := ⟨Tryz.f144.name, by decide, Tryz.func144.trans (congrArg some (by kernel_rfl))⟩
  f47 := Tryz.func145.trans (congrArg some (by kernel_rfl))
  f48 := Tryz.func146.trans (congrArg some (by kernel_rfl))
  f49 := ⟨Tryz.f147.name, by decide, Tryz.func147.trans (congrArg some (by kernel_rfl))⟩
  f50 := ⟨Tryz.f148.name, by decide, Tryz.func148.trans (congrArg some (by kernel_rfl))⟩
  f57 := ⟨Tryz.f154.name, by decide, Tryz.func154.trans (congrArg some (by kernel_rfl))⟩
  t0 := Tryz.underlying0
  a0 := Tryz.isAgg0
  z0 := Tryz.sizeOf0
  v0 := Tryz.zeroValue0
  t3 := Tryz.underlying3
  a3 := Tryz.isAgg3
  z3 := Tryz.sizeOf3
  v3 := Tryz.zeroValue3
  t4 := Tryz.underlying4
  a4 := Tryz.isAgg4
  z4 := Tryz.sizeOf4
  v4 := Tryz.zeroValue4
  t5 := Tryz.underlying5
  a5 := Tryz.isAgg5
  z5 := Tryz.sizeOf5
  v5 := Tryz.zeroValue5
  t9 := Tryz.underlying9
  a9 := Tryz.isAgg9
  z9 := Tryz.sizeOf9
  v9 := Tryz.zeroValue9
  t22 := Tryz.underlying24
  a22 := Tryz.isAgg24
  z22 := Tryz.sizeOf24
  v22 := Tryz.zeroValue24
  t25 := Tryz.underlying111
  a25 := Tryz.isAgg111
  z25 := Tryz.sizeOf111
  v25 := Tryz.zeroValue111
  t39 := Tryz.underlying116
  a39 := Tryz.isAgg116
  z39 := Tryz.sizeOf116
  v39 := Tryz.zeroValue116
  t45 := Tryz.underlying155
  a45 := Tryz.isAgg155
  z45 := Tryz.sizeOf155
  v45 := Tryz.zeroValue155
  t46 := Tryz.underlying156
  a46 := Tryz.isAgg156
  z46 := Tryz.sizeOf156
  v46 := Tryz.zeroValue156
  t50 := Tryz.underlying160
  a50 := Tryz.isAgg160
  z50 := Tryz.sizeOf160
  v50 := Tryz.zeroValue160
  t53 := Tryz.underlying147
  a53 := Tryz.isAgg147
  z53 := Tryz.sizeOf147
  v53 := Tryz.zeroValue147
  t55 := Tryz.underlying58
  a55 := Tryz.isAgg58
  z55 := Tryz.sizeOf58
  v55 := Tryz.zeroValue58
  t66 := Tryz.underlying169
  a66 := Tryz.isAgg169
  z66 := Tryz.sizeOf169
  v66 := Tryz.zeroValue169
  t70 := Tryz.underlying173
  a70 := Tryz.isAgg173
  z70 := Tryz.sizeOf173
  v70 := Tryz.zeroValue173
  t76 := Tryz.underlying182
  a76 := Tryz.isAgg182
  z76 := Tryz.sizeOf182
  v76 := Tryz.zeroValue182
  t77 := Tryz.underlying59
  a77 := Tryz.isAgg59
  z77 := Tryz.sizeOf59
  v77 := Tryz.zeroValue59 }
def Tryz.cloneD_ren : Go.Shelf.Ren := ⟨fun | 41 => 81 | n => n, fun | 22 => 24 | 23 => 37 | 4 => 4 | n => n, fun | n => n⟩
theorem Tryz.cloneD : Go.Proofs.SlLaysE0.n41 Tryz.prog Tryz.cloneD_ren := {
  mixed := by kernel_rfl
  f41 := ⟨Tryz.f81.name, by decide, Tryz.func81.trans (congrArg some (by kernel_rfl))⟩
  t4 := Tryz.underlying4
  a4 := Tryz.isAgg4
  z4 := Tryz.sizeOf4
  v4 := Tryz.zeroValue4
  t22 := Tryz.underlying24
  a22 := Tryz.isAgg24
  z22 := Tryz.sizeOf24
  v22 := Tryz.zeroValue24 }
def Tryz.bitsLenD_ren : Go.Shelf.Ren := ⟨fun | 125 => 107 | 128 => 135 | 129 => 96 | n => n, fun | 46 => 116 | 3 => 3 | 51 => 147 | 53 => 58 | 4 => 4 | 5 => 5 | 9 => 9 | n => n, fun | n => n⟩
theorem Tryz.bitsLenD : Go.Proofs.Lays.n125 Tryz.prog Tryz.bitsLenD_ren := {
  mixed := by kernel_rfl
  f125 := Tryz.func107.trans (congrArg some (by kernel_rfl))
  f128 := Tryz.func135.trans (congrArg some (by kernel_rfl))
  f129 := Tryz.func96.trans (congrArg some (by kernel_rfl))
  t3 := Tryz.underlying3
  a3 := Tryz.isAgg3
  z3 := Tryz.sizeOf3
  v3 := Tryz.zeroValue3
  t4 := Tryz.underlying4
  a4 := Tryz.isAgg4
  z4 := Tryz.sizeOf4
  v4 := Tryz.zeroValue4
  t5 := Tryz.underlying5
  a5 := Tryz.isAgg5
  z5 := Tryz.sizeOf5
  v5 := Tryz.zeroValue5
  t9 := Tryz.underlying9
  a9 := Tryz.isAgg9
  z9 := Tryz.sizeOf9
  v9 := Tryz.zeroValue9
  t46 := Tryz.underlying116
  a46 := Tryz.isAgg116
  z46 := Tryz.sizeOf116
  v46 := Tryz.zeroValue116
  t51 := Tryz.underlying147
  a51 := Tryz.isAgg147
  z51 := Tryz.sizeOf147
  v51 := Tryz.zeroValue147
  t53 := Tryz.underlying58
  a53 := Tryz.isAgg58
  z53 := Tryz.sizeOf58
  v53 := Tryz.zeroValue58 }
end Go.Proofs
/-
The program's Mul of many numbers. Conditions: as each says.
-/
set_option linter.unusedVariables false
set_option linter.unusedSimpArgs false
namespace Go.Proofs.YtbkbeglmfhaleaaGreatDoor
open Go.RowKit
attribute [local go_sem ↓] Go.wp_at_zero Go.wp_at_succ

/-- The product of a list of numbers. -/
def dprod : List Dyadic → Dyadic
  | [] => dy 1 0
  | d :: l => d * dprod l
/-- The product so far, as the program goes. -/
def dpr (l : List Dyadic) : Dyadic := l.foldl (· * ·) (dy 1 0)
theorem dpr_snoc (l : List Dyadic) (d : Dyadic) : dpr (l ++ [d]) = dpr l * d := by unfold dpr; rw [List.foldl_append]; rfl
theorem mul_ne {a b : Dyadic} (ha : a ≠ 0) (hb : b ≠ 0) : mant (a * b) = mant a * mant b ∧ expo (a * b) = expo a + expo b ∧ a * b ≠ 0 := by
  have e : a * b = dy (mant a * mant b) (expo a + expo b) := by rw [← dy_mul, dy_mant, dy_mant]
  have ho : (mant a * mant b) % 2 = 1 := by rw [Int.mul_emod, mant_odd a ha, mant_odd b hb]; rfl
  refine ⟨by rw [e, mant_dy _ _ ho], by rw [e, expo_dy _ _ ho], fun h => ?_⟩
  rw [e, dy_eq_zero] at h
  rw [h] at ho
  cases ho
abbrev D4T (w : World) := { x : D4 // x.ok w }
instance (w : World) : Inhabited (D4T w) := ⟨⟨default, Wh.zero _ _ _, Wh.zero _ _ _⟩⟩
theorem isAggD : ∀ w, (isAgg 37).run Tryz.prog w = .ok true w := fun w => Tryz.isAgg37 w
theorem sizeD : ∀ w, (Go.sizeOf 37).run Tryz.prog w = .ok 4 w := fun w => Tryz.sizeOf37 w
/-- Does the list hold 0? -/
theorem contz_any (b o n c : Nat) (xs : List D4) (w : World) (hn : xs.length = n) (hl : Dl w (some ⟨b, o, none⟩) xs) (ho : Oks w xs) (hb : b < w.heap.size) (hbig : n ≤ 1099511627776) :
    Calls Tryz.prog 49 #[.slice (some ⟨b, o, none⟩) n c, .func (.func 50) #[] #[]] w fun e w' => e = .returned (.bool ((dds xs).any isz)) ∧ Below w.heap.size w w' := by
  have ho' : ∀ a ∈ xs, D4.ok w a := ho
  let zs : List (D4T w) := xs.pmap (fun x h => ⟨x, h⟩) ho'
  have hzl : zs.length = n := (List.length_pmap).trans hn
  have h := AnyQ.slices_ContainsFunc Tryz.contD 4 isAggD sizeD (fun x : D4T w => x.1.cells) (fun _ => rfl) (fun x : D4T w => isz x.1.d) 50 #[] (enters_of Tryz.func50 (by kernel_rfl) rfl) b o n c zs w
    (fun W x hb => (mulz_any (x.2.below hb)).mono fun e w' ⟨h1, h2⟩ => ⟨h1, hb.trans (h2.mono hb.size)⟩) (by omega) (by omega) hb
    (fun j hj i v hi => by
      have hj' : j < xs.length := by omega
      have e1 : zs[j]!.1 = xs[j] := by
        rw [getElem!_pos zs j hj]; show (xs.pmap (fun x h => (⟨x, h⟩ : D4T w)) ho')[j].1 = xs[j]; rw [List.getElem_pmap]
      rw [e1] at hi
      have hi4 : i < 4 := by
        have := (List.getElem?_eq_some_iff.1 hi).1
        rw [D4.cells_len] at this; exact this
      rcases hl with h0 | ⟨b', o', e', hc⟩
      · have := d4s_length xs
        rw [h0] at this
        simp only [List.length_nil] at this
        omega
      · injection e' with e'
        injection e' with e2 e3
        subst e2 e3
        have := hc (j * 4 + i) v (by rw [d4s_get xs j i hj' hi4]; exact hi)
        rw [← Nat.add_assoc] at this
        exact this)
  have e2 : (zs.take n).any (fun x => isz x.1.d) = (dds xs).any isz := by
    rw [List.take_of_length_le (by omega)]
    unfold dds
    rw [List.any_map, Bool.eq_iff_iff, List.any_eq_true, List.any_eq_true]
    constructor
    · rintro ⟨x, hx, hz⟩
      obtain ⟨y, hy, rfl⟩ := List.mem_pmap.1 hx
      exact ⟨y, hy, hz⟩
    · rintro ⟨x, hx, hz⟩
      exact ⟨⟨x, ho x hx⟩, List.mem_pmap.2 ⟨x, hx, rfl⟩, hz⟩
  rw [e2] at h
  exact h
theorem idxz_nil (c : Nat) (w : World) : Calls Tryz.prog 86 #[.slice none 0 c, .func (.func 50) #[] #[]] w fun e w' => e = .returned (.int .i64 (-1)) ∧ Below w.heap.size w w' := by
  go_enter Tryz.func86, Tryz.ntmps86
  go_wp2_with fail
  refine wp_loop_rounds 1 ?_
  rw [rounds_succ]
  go_wp2_with fail
  go_ret
  exact ⟨rfl, Below.refl _ _⟩
theorem contz_nil (c : Nat) (w : World) : Calls Tryz.prog 49 #[.slice none 0 c, .func (.func 50) #[] #[]] w fun e w' => e = .returned (.bool false) ∧ Below w.heap.size w w' := by
  have hz : ∃ z : Int, z = -1 ∧ ¬ 0 ≤ z := ⟨-1, rfl, by omega⟩
  obtain ⟨z, hz1, hz2⟩ := hz
  have hi := fun W => idxz_nil c W
  rw [← hz1] at hi
  clear hz1
  have hz3 : decide (0 ≤ z) = false := decide_eq_false hz2
  go_enter Tryz.func49, Tryz.ntmps49
  go_wp2_with fail
  refine (hi _).mono ?_
  rintro e w1 ⟨rfl, hb⟩
  go_wp2_with fail
  go_ret
  exact ⟨rfl, hb⟩
set_option maxHeartbeats 1000000 in
/-- One of the numbers is 0. -/
theorem pmul_zero (b o n c : Nat) (xs : List D4) (w : World) (hn : xs.length = n) (hl : Dl w (some ⟨b, o, none⟩) xs) (ho : Oks w xs) (hb : b < w.heap.size) (hbig : n ≤ 1099511627776) (hz : (dds xs).any isz = true) :
    Calls Tryz.prog 20 #[.slice (some ⟨b, o, none⟩) n c] w (RetP 0 w) := by
  have hc := fun W (hW : Below w.heap.size w W) => contz_any b o n c xs W hn (hl.below hW) (ho.below hW) (Nat.lt_of_lt_of_le hb hW.size) hbig
  rw [hz] at hc
  have HC := Lib.hid hc
  clear hc hl ho hz hn
  go_enter Tryz.func20, Tryz.ntmps20
  go_wp2_with fail
  have hbl := (Below.refl w.heap.size w).alloc (Nat.le_refl _) (.cells #[.bool false, .slice none 0 0, .bool false, .slice none 0 0] 37)
  refine (HC.out _ hbl).mono ?_
  rintro e w1 ⟨rfl, hb1⟩
  have hB := (Blk.new w 37 #[.bool false, .slice none 0 0, .bool false, .slice none 0 0]).below hb1 (by simp)
  have HB := Lib.hid hB
  have HBl := Lib.hid (hbl.trans (hb1.mono (by simp)))
  obtain ⟨r0, r1, r2, r3, f0, f1, f2, f3⟩ := cells4 hB
  clear hb1 hB hbl
  go_wp2_with fail
  clear r0 r1 r2 r3 f0 f1 f2 f3
  obtain ⟨k0, k1, k2, k3, _⟩ := cells4 (Blk.store4 HB.out (.bool false) (.slice none 0 0) (.bool false) (.slice none 0 0))
  exact bodyPost_ret (v := .agg #[.bool false, .slice none 0 0, .bool false, .slice none 0 0]) (by simp [results, Tryz.results20, go_sem, k0, k1, k2, k3]) rfl
    ⟨_, rfl, PV.zero _ _ _ _ _, (((HBl.out.setCell (by simp) _).setCell (by simp) _).setCell (by simp) _).setCell (by simp) _⟩
end Go.Proofs.YtbkbeglmfhaleaaGreatDoor
