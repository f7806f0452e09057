/-
Take: rows that change places in an order. Conditions: as each says.
-/
import Derived.Test.YtamndbeffbcppaaMvI
import Derived.Test.YtamndbeffbcppaaOpI
set_option linter.unusedVariables false
namespace Go.Proofs.Ytamndbeffbcppaa
open Go.RowKit
attribute [local go_sem ↓] Go.wp_at_zero Go.wp_at_succ

/-- Is each from its own place to r - 1? -/
def OrdOk (r : Int) (zs : List Int) (k : Nat) : Prop := ∀ i (h : i < zs.length), i < k → (i : Int) ≤ zs[i] ∧ zs[i] < r
/-- The answer of takes. -/
def TakesI (n : Nat) (off r k ld : Int) (zs : List Int) (e : Int) : Prop :=
  (matB n off r k ld = false ∧ e = 1) ∨ (matB n off r k ld = true ∧ r < zs.length ∧ e = 3) ∨ (matB n off r k ld = true ∧ (zs.length : Int) ≤ r ∧ ((e = 0 ∧ OrdOk r zs zs.length) ∨ (e = 1 ∧ ¬ OrdOk r zs zs.length)))

set_option maxHeartbeats 1000000 in
theorem takes_any (A : Option Addr) (n c : Nat) (off r k ld : Int) (B : Option Addr) (m d : Nat) (zs : List Int) (w : World) (hn : n < 9223372036854775808) (ho : I64 off) (hr : I64 r) (hk : I64 k) (hi : I64 ld) (hB : Row w B (i64s zs)) (hm : zs.length = m) (hmb : m < 9223372036854775808) (hz : ∀ z ∈ zs, I64 z) :
    Calls Try.prog 42 #[mat A n c off r k ld, .slice B m d] w fun e w' => (∃ x, e = .returned (.int .i64 x) ∧ TakesI n off r k ld zs x) ∧ Below w.heap.size w w' := by
  have HG := Lib.hid (fun W => good_any A n c off r k ld W hn ho hr hk hi)
  have HT := Lib.hid (fun x => show TakesI n off r k ld zs x ↔ (matB n off r k ld = false ∧ x = 1) ∨ (matB n off r k ld = true ∧ r < m ∧ x = 3) ∨ (matB n off r k ld = true ∧ (m : Int) ≤ r ∧ ((x = 0 ∧ OrdOk r zs m) ∨ (x = 1 ∧ ¬ OrdOk r zs m))) by rw [← hm]; exact Iff.rfl)
  generalize TakesI n off r k ld zs = T at *
  generalize matB n off r k ld = y at *
  have HB := Lib.hid hB
  have HM := Lib.hid hm
  have HZ := Lib.hid hz
  unfold I64 at hr
  clear hn ho hk hi hB hm hz
  unfold mat at *
  go_enter Try.func42, Try.ntmps42
  have HZ0 := Lib.hid (Blk.new w 24 #[.slice A n c, .int .i64 off, .int .i64 r, .int .i64 k, .int .i64 ld])
  have HB0 := Lib.hid ((Below.refl w.heap.size w).alloc (Nat.le_refl _) (.cells #[.slice A n c, .int .i64 off, .int .i64 r, .int .i64 k, .int .i64 ld] 24))
  go_wp2_with fail
  refine (HG.out _).mono ?_
  rintro e w1 ⟨rfl, hb⟩
  have HZ1 := Lib.hid (HZ0.out.nxt hb)
  have HB1 := Lib.hid (below_nx HB0.out hb)
  clear hb
  obtain ⟨c0, c1, c2, c3, c4⟩ := cells5 HZ1.out
  cases y
  · go_wp2_with fail
    go_ret
    exact ⟨⟨1, rfl, (HT.out 1).2 (.inl ⟨by simp, rfl⟩)⟩, HB1.out⟩
  by_cases hlen : r < (m : Int)
  · go_wp2_with fail
    go_ret
    exact ⟨⟨3, rfl, (HT.out 3).2 (.inr (.inl ⟨by simp, hlen, rfl⟩))⟩, HB1.out⟩
  have HL := Lib.hid hlen
  go_wp2_with fail
  go_loop [19] (fun a => ∃ q : Nat, q ≤ m ∧ a = .int .i64 q ∧ OrdOk r zs q) (fun a => m - (intOf a).toNat)
  case atStart => exact ⟨0, Nat.zero_le _, rfl, fun i h h0 => by omega⟩
  case round =>
    obtain ⟨q, hq, rfl, hok⟩ := hrel
    have HOk := Lib.hid hok
    clear hok
    by_cases hlt : q < m
    · have hql : q < zs.length := by rw [HM.out]; exact hlt
      obtain ⟨b, o, rfl, _, hcell0⟩ := HB.out.at_ (i64s_get zs q hql)
      have hcell := cell_below hcell0 HB1.out
      have HZq := Lib.hid (HZ.out zs[q] (List.getElem_mem hql))
      obtain ⟨z, hz⟩ : ∃ z, zs[q] = z := ⟨_, rfl⟩
      rw [hz] at hcell HZq
      have Hz := Lib.hid hz
      have hzb := HZq.out
      unfold I64 at hzb
      clear hcell0 hz
      have hlt2 : (q : Int) < (m : Int) := by omega
      by_cases h1 : z < (q : Int)
      · go_wp2_with fail
        go_ret
        exact ⟨⟨1, rfl, (HT.out 1).2 (.inr (.inr ⟨by simp, by have := HL.out; omega, .inr ⟨rfl, fun h => by have := (h q hql hlt).1; rw [Hz.out] at this; omega⟩⟩))⟩, HB1.out⟩
      · by_cases h2 : r ≤ z
        · go_wp2_with fail
          go_ret
          exact ⟨⟨1, rfl, (HT.out 1).2 (.inr (.inr ⟨by simp, by have := HL.out; omega, .inr ⟨rfl, fun h => by have := (h q hql hlt).2; rw [Hz.out] at this; omega⟩⟩))⟩, HB1.out⟩
        · go_wp2_with fail
          go_round
          case rel => exact ⟨q + 1, by omega, by go_num, fun i h hi => by
            by_cases e : i = q
            · subst e; rw [Hz.out]; omega
            · exact HOk.out i h (by omega)⟩
          case measure => simp [intOf]; omega
    · obtain rfl : q = m := by omega
      go_wp2_with fail
      go_ret
      exact ⟨⟨0, rfl, (HT.out 0).2 (.inr (.inr ⟨by simp, by have := HL.out; omega, .inl ⟨rfl, HOk.out⟩⟩))⟩, HB1.out⟩

/-- The row that stands at a when the first k changes of the order have been made. -/
def prm (zs : List Int) : Nat → Nat → Nat
  | 0, a => a
  | k + 1, a => prm zs k (sw k (zs.getD k 0).toNat a)
theorem prm_lt {zs : List Int} {R : Nat} : ∀ {k : Nat}, OrdOk R zs k → k ≤ zs.length → ∀ {a : Nat}, a < R → prm zs k a < R
  | 0, _, _, a, ha => ha
  | k + 1, h, hk, a, ha => by
    have h1 := h k (by omega) (by omega)
    have e : zs.getD k 0 = zs[k] := by simp [List.getD, show k < zs.length by omega]
    refine prm_lt (k := k) (fun i hi hik => h i hi (by omega)) (by omega) (sw_lt (by omega) (by rw [e]; omega) ha)

theorem take_err (A : Option Addr) (n c : Nat) (off r k ld : Int) (B : Option Addr) (m d : Nat) (zs : List Int) (w : World) (hn : n < 9223372036854775808) (ho : I64 off) (hr : I64 r) (hk : I64 k) (hi : I64 ld) (hB : Row w B (i64s zs)) (hm : zs.length = m) (hmb : m < 9223372036854775808) (hz : ∀ z ∈ zs, I64 z)
    (x : Int) (hx : ∀ e, TakesI n off r k ld zs e → e = x) (hx0 : x ≠ 0) :
    Calls Try.prog 11 #[mat A n c off r k ld, .slice B m d] w fun e w' => e = .returned (.int .i64 x) ∧ Below w.heap.size w w' := by
  have HT := Lib.hid (fun W (hb : Below w.heap.size w W) => takes_any A n c off r k ld B m d zs W hn ho hr hk hi (hB.below hb) hm hmb hz)
  have HX := Lib.hid hx
  have hx1 : (x == 0) = false := by simp [hx0]
  clear hn ho hr hk hi hB hm hz hx
  unfold mat at *
  go_enter Try.func11, Try.ntmps11
  have HB0 := Lib.hid ((Below.refl w.heap.size w).alloc (Nat.le_refl _) (.cells #[.slice A n c, .int .i64 off, .int .i64 r, .int .i64 k, .int .i64 ld] 24))
  go_wp2_with fail
  refine (HT.out _ HB0.out).mono ?_
  rintro e w1 ⟨⟨y, rfl, hy⟩, hb⟩
  obtain rfl := HX.out y hy
  have HB1 := Lib.hid (below_nx HB0.out hb)
  clear hb hy
  go_wp2_with fail
  go_ret
  exact ⟨rfl, HB1.out⟩

theorem Img.step {l m m' : List Nat} {o R C L i j : Nat} {zs : List Int} {q : Nat} (h : Img l o R C L (fun a b => l.getD (o + prm zs q a + b * L) 0) m) (h' : Img m o R C L (fun a b => m.getD (o + sw i j a + b * L) 0) m') (hi : i < R) (hj : j < R) :
    Img l o R C L (fun a b => l.getD (o + prm zs q (sw i j a) + b * L) 0) m' :=
  (h.trans h').congr fun a ha b hb => h.2.1 _ (sw_lt hi hj ha) b hb

set_option maxHeartbeats 1000000 in
theorem take_ok (g c : Nat) (l : List Nat) (n o R C L : Nat) (B : Option Addr) (m d : Nat) (zs : List Int) (w : World) (hO : Own w g l) (hln : l.length = n) (hn : n < 9223372036854775808) (hb : o < 9223372036854775808 ∧ R < 9223372036854775808 ∧ C < 9223372036854775808 ∧ L < 9223372036854775808)
    (hL : 1 ≤ L) (hR : R ≤ L) (hr : R = 0 ∨ C = 0 ∨ o + (C - 1) * L + (R - 1) < n) (hB : Row w B (i64s zs)) (hBg : ∀ b x, B = some ⟨b, x, none⟩ → zs ≠ [] → b ≠ g) (hm : zs.length = m) (hmR : m ≤ R) (hz : OrdOk R zs m) :
    Calls Try.prog 11 #[mat (some ⟨g, 0, none⟩) n c o R C L, .slice B m d] w fun e w' => e = .returned (.int .i64 0) ∧ ∃ l', Own w' g l' ∧ Img l o R C L (fun a b => l.getD (o + prm zs m a + b * L) 0) l' ∧ Chg [g] w w' := by
  have HT := Lib.hid (fun W (hb' : Below w.heap.size w W) => takes_any (some ⟨g, 0, none⟩) n c o R C L B m d zs W hn (by unfold I64; omega) (by unfold I64; omega) (by unfold I64; omega) (by unfold I64; omega) (hB.below hb') hm (by omega) (fun z hz' => by
    obtain ⟨i, hi, rfl⟩ := List.mem_iff_getElem.1 hz'
    have := hz i hi (by omega)
    unfold I64; omega))
  have HX := Lib.hid (fun e (h : TakesI n o R C L zs e) => show e = 0 by
    rcases h with ⟨h1, _⟩ | ⟨_, h1, _⟩ | ⟨_, _, ⟨h1, _⟩ | ⟨_, h1⟩⟩
    · rw [mat_right hL hR hr] at h1; cases h1
    · omega
    · exact h1
    · rw [hm] at h1; exact (h1 hz).elim)
  have HRw := Lib.hid (fun W (l1 : List Nat) (h : Own W g l1) (hl1 : l1.length = n) (i j : Nat) (hi : i < R) (hj : j < R) => rows_there g c l1 n o R C L i j W h hl1 hn hb hL hR hr hi hj)
  have HO := Lib.hid hO
  have Hl := Lib.hid hln
  have HB := Lib.hid hB
  have HBg := Lib.hid hBg
  have HM := Lib.hid hm
  have HZs := Lib.hid hz
  have hgz := hO.lt
  have hRb := hb.2.1
  clear hO hln hn hb hL hR hr hB hBg hm hz
  unfold mat at *
  go_enter Try.func11, Try.ntmps11
  have HZ0 := Lib.hid (Blk.new w 24 #[.slice (some ⟨g, 0, none⟩) n c, .int .i64 o, .int .i64 R, .int .i64 C, .int .i64 L])
  have HB0 := Lib.hid ((Below.refl w.heap.size w).alloc (Nat.le_refl _) (.cells #[.slice (some ⟨g, 0, none⟩) n c, .int .i64 o, .int .i64 R, .int .i64 C, .int .i64 L] 24))
  go_wp2_with fail
  refine (HT.out _ HB0.out).mono ?_
  rintro e w1 ⟨⟨y, rfl, hy⟩, hb⟩
  obtain rfl := HX.out y hy
  have HZ1 := Lib.hid (HZ0.out.nxt hb)
  have HB1 := Lib.hid (below_nx HB0.out hb)
  clear hb hy
  go_wp2_with fail
  generalize hzz : w.heap.size = z at *
  have Hz := Lib.hid hzz
  clear hzz
  go_loopw [16] (fun a wr => ∃ (q : Nat) (l1 : List Nat), q ≤ m ∧ a = .int .i64 q ∧ Own wr g l1 ∧ Img l o R C L (fun a b => l.getD (o + prm zs q a + b * L) 0) l1 ∧ Chg [g] w wr ∧ Blk wr z 24 #[.slice (some ⟨g, 0, none⟩) n c, .int .i64 o, .int .i64 R, .int .i64 C, .int .i64 L]) (fun a _ => m - (intOf a).toNat)
  case atStart => exact ⟨0, l, Nat.zero_le _, rfl, HO.out.nxt (by rw [Hz.out]; exact HB1.out), Img.refl l o R C L, .of_below (by rw [Hz.out]; exact HB1.out), HZ1.out⟩
  case round =>
    obtain ⟨q, l1, hq, rfl, ho1, hi1, hc1, hz1⟩ := hrel
    have HO1 := Lib.hid ho1
    have HI1 := Lib.hid hi1
    have HC1 := Lib.hid hc1
    have HZ2 := Lib.hid hz1
    clear ho1 hi1 hc1 hz1
    obtain ⟨c0, c1, c2, c3, c4⟩ := cells5 HZ2.out
    by_cases hlt : q < m
    · have hql : q < zs.length := by rw [HM.out]; exact hlt
      obtain ⟨b, x, rfl, _, hcell0⟩ := HB.out.at_ (i64s_get zs q hql)
      have hcell := HC1.out.cell (by rw [List.mem_singleton]; exact HBg.out b x rfl (by rintro rfl; cases hql)) hcell0
      have hzq := HZs.out q hql hlt
      obtain ⟨j, hj⟩ : ∃ j : Nat, zs[q] = j := ⟨zs[q].toNat, by omega⟩
      rw [hj] at hcell hzq
      have hstep : ∀ a, prm zs q (sw q j a) = prm zs (q + 1) a := fun a => by
        rw [prm]
        have e : zs.getD q 0 = zs[q] := by simp [List.getD, hql]
        rw [e, hj]; rfl
      have HSt := Lib.hid hstep
      have hjR : j < R := by omega
      clear hcell0 hj hstep hzq
      have hlt2 : (q : Int) < (m : Int) := by omega
      have HRw1 := Lib.hid (HRw.out wr l1 HO1.out (by rw [HI1.out.1, Hl.out]) q j (by omega) hjR)
      go_wp2_with fail
      refine HRw1.out.mono ?_
      rintro e w2 ⟨rfl, l2, ho2, hi2, hc2⟩
      have HO2 := Lib.hid ho2
      have HI2 := Lib.hid hi2
      have HC2 := Lib.hid (HC1.out.trans hc2)
      have HZ3 := Lib.hid (hc2.blk (by rw [List.mem_singleton]; omega) HZ2.out)
      clear ho2 hi2 hc2 c0 c1 c2 c3 c4 hcell
      go_wp2_with fail
      go_roundw
      case rel => exact ⟨q + 1, l2, by omega, by go_num, HO2.out, (HI1.out.step HI2.out (by omega) hjR).congr (fun a ha b hb => by simp only [HSt.out]), HC2.out, HZ3.out⟩
      case measure => simp [intOf]; omega
    · obtain rfl : q = m := by omega
      go_wp2_with fail
      go_ret
      exact ⟨rfl, l1, HO1.out, HI1.out, HC1.out⟩
end Go.Proofs.Ytamndbeffbcppaa
