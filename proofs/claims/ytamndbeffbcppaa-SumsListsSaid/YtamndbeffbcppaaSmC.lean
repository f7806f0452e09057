/-
Sums' Asum and Most. Conditions: the list has at most 2^20 numbers.
-/
import Derived.Test.YtamndbeffbcppaaSmB
set_option linter.unusedVariables false
set_option linter.unusedSimpArgs false
set_option linter.unnecessarySimpa false
namespace Go.Proofs.Ytamndbeffbcppaa
open Go.RowKit
attribute [local go_sem ↓] Go.wp_at_zero Go.wp_at_succ

theorem asum_step {l : List Nat} {k s r a : Nat} (hs : Is s (asumF l k)) (ha : l.getD k 0 = a) (hr : Comes .add s (absW a) r) : Is r (asumF l (k + 1)) := by
  show Is r (fbin .add (asumF l k) (absW (l.getD k 0)))
  rw [ha]
  exact hr.is_ hs (Is.refl (by have := absW_lt a; omega))

set_option maxRecDepth 100000 in
set_option maxHeartbeats 1000000 in
theorem asum_ok (A : Option Addr) (n c : Nat) (l : List Nat) (o K i : Nat) (w : World) (hA : Row w A (f64s l)) (hW : Wds l) (hl : l.length = n) (hn : n < 1048576)
    (hr : K = 0 ∨ o + (K - 1) * i < n) (hK : K < 1048576) (hv : vecB n o K i = true) (ho : I64 o) (hi : I64 i) :
    Calls Try.prog 26 #[vec A n c o K i] w fun e w' => ∃ r, e = .returned (.tuple #[.float .f64 r, .int .i64 0]) ∧ Is r (asumF (lst l o i K) K) ∧ Below w.heap.size w w' := by
  have HR := Lib.hid (fun a (h : a < K) => show o + a * i < n from by
    rcases hr with h0 | h0
    · omega
    · exact place_lt h0 h)
  have HAt := Lib.hid (fun W (hb : Below w.heap.size w W) k (hk : k < K) => sat_any A n c l o K i k W (hA.below hb) hl hn (HR.out k hk))
  have HRi := Lib.hid (fun W => right_any A n c o K i W (by omega) ho (by unfold I64; omega) hi)
  rw [hv] at HRi
  have HWl := Lib.hid (fun k => lst_wds hW o i K k)
  have HK := Lib.hid hK
  clear hA hW hl hn hr hv ho hi hK
  unfold vec at *
  go_enter Try.func26, Try.ntmps26
  have Ha0 := Lib.hid (Blk.new w 45 #[.slice A n c, .int .i64 o, .int .i64 K, .int .i64 i])
  have HB0 := Lib.hid ((Below.refl w.heap.size w).alloc (Nat.le_refl _) (.cells #[.slice A n c, .int .i64 o, .int .i64 K, .int .i64 i] 45))
  go_wp2_with fail
  refine (HRi.out _).mono ?_
  rintro e w1 ⟨rfl, hb⟩
  have Ha1 := Lib.hid (Ha0.out.nxt hb)
  have HB1 := Lib.hid (below_nx HB0.out hb)
  clear hb
  obtain ⟨a0, a1, a2, a3⟩ := cells4w Ha1.out
  go_wp2_with fail
  clear a0 a1 a2 a3
  go_loopw [4, 11] (fun s a wr => ∃ q r : Nat, q ≤ K ∧ s = .float .f64 r ∧ a = .int .i64 q ∧ Is r (asumF (lst l o i K) q) ∧ Below w.heap.size w wr ∧ Blk wr w.heap.size 45 #[.slice A n c, .int .i64 o, .int .i64 K, .int .i64 i]) (fun _ a _ => K - (intOf a).toNat)
  case atStart => exact ⟨0, 0, Nat.zero_le _, rfl, rfl, is_zero, HB1.out, Ha1.out⟩
  case round =>
    obtain ⟨q, r, hq, rfl, rfl, his, hbl, ha⟩ := hrel
    have HIs := Lib.hid his
    have HBl := Lib.hid hbl
    have Ha := Lib.hid ha
    clear his hbl ha
    obtain ⟨a0, a1, a2, a3⟩ := cells4w Ha.out
    by_cases hlt : q < K
    · have HC := Lib.hid (HAt.out wr (HBl.out) q hlt)
      obtain ⟨x, hx⟩ : ∃ x, l.getD (o + q * i) 0 = x := ⟨_, rfl⟩
      rw [hx] at HC
      have HX := Lib.hid ((lst_getD l o i hlt).trans hx)
      have HXl := Lib.hid (HWl.out q)
      rw [HX.out] at HXl
      have HSt := Lib.hid (fun r' (hr' : Comes .add r (absW x) r') => asum_step HIs.out HX.out hr')
      have hqc : (q : Int) < (K : Int) := by omega
      have hq1 : q + 1 ≤ 1048576 := by have := HK.out; omega
      clear hx
      go_wp2_with fail
      refine HC.out.mono ?_
      rintro e w2 ⟨rfl, hb⟩
      have HBl2 := Lib.hid (below_nx HBl.out hb)
      have Ha2 := Lib.hid (Ha.out.nxt hb)
      clear hb a0 a1 a2 a3
      go_wp2_with fail
      refine (mabs_any x _ HXl.out).mono ?_
      rintro e w3 ⟨rfl, rfl⟩
      have HRes := Lib.hid (HSt.out _ (fres_comes .add w2 r (absW x)))
      go_wp2_with fail
      go_roundw
      case rel => exact ⟨q + 1, _, by omega, rfl, by go_num, HRes.out, below_drewN HBl2.out _, Ha2.out⟩
      case measure => simp [intOf]; omega
    · obtain rfl : q = K := by omega
      have hqc : ¬ (q : Int) < (q : Int) := by omega
      go_wp2_with fail
      go_ret2
      exact ⟨_, rfl, HIs.out, HBl.out⟩

theorem asum_err (A : Option Addr) (n c : Nat) (off k inc : Int) (w : World) (hn : n < 9223372036854775808) (ho : I64 off) (hk : I64 k) (hi : I64 inc) (hv : vecB n off k inc = false) :
    Calls Try.prog 26 #[vec A n c off k inc] w fun e w' => e = .returned (.tuple #[.float .f64 0, .int .i64 1]) ∧ Below w.heap.size w w' := by
  have HRi := Lib.hid (fun W => right_any A n c off k inc W hn ho hk hi)
  rw [hv] at HRi
  clear hn ho hk hi hv
  unfold vec at *
  go_enter Try.func26, Try.ntmps26
  have HB0 := Lib.hid ((Below.refl w.heap.size w).alloc (Nat.le_refl _) (.cells #[.slice A n c, .int .i64 off, .int .i64 k, .int .i64 inc] 45))
  go_wp2_with fail
  refine (HRi.out _).mono ?_
  rintro e w1 ⟨rfl, hb⟩
  have HB1 := Lib.hid (below_nx HB0.out hb)
  clear hb
  go_wp2_with fail
  go_ret2
  exact ⟨rfl, HB1.out⟩
theorem most_err (A : Option Addr) (n c : Nat) (off k inc : Int) (w : World) (hn : n < 9223372036854775808) (ho : I64 off) (hk : I64 k) (hi : I64 inc) (hv : vecB n off k inc = false) :
    Calls Try.prog 27 #[vec A n c off k inc] w fun e w' => e = .returned (.tuple #[.int .i64 (-1), .int .i64 1]) ∧ Below w.heap.size w w' := by
  have HRi := Lib.hid (fun W => right_any A n c off k inc W hn ho hk hi)
  rw [hv] at HRi
  clear hn ho hk hi hv
  unfold vec at *
  go_enter Try.func27, Try.ntmps27
  have HB0 := Lib.hid ((Below.refl w.heap.size w).alloc (Nat.le_refl _) (.cells #[.slice A n c, .int .i64 off, .int .i64 k, .int .i64 inc] 45))
  go_wp2_with fail
  refine (HRi.out _).mono ?_
  rintro e w1 ⟨rfl, hb⟩
  have HB1 := Lib.hid (below_nx HB0.out hb)
  clear hb
  go_wp2_with fail
  go_ret2
  exact ⟨rfl, HB1.out⟩

/-- The place that is told: -1 of no numbers. -/
def mostI (l : List Nat) : Int := if l.length = 0 then -1 else (mostF l l.length : Int)
set_option maxRecDepth 100000 in
set_option maxHeartbeats 1000000 in
theorem most_ok (A : Option Addr) (n c : Nat) (l : List Nat) (o K i : Nat) (w : World) (hA : Row w A (f64s l)) (hW : Wds l) (hl : l.length = n) (hn : n < 1048576)
    (hr : K = 0 ∨ o + (K - 1) * i < n) (hK : K < 1048576) (hv : vecB n o K i = true) (ho : I64 o) (hi : I64 i) :
    Calls Try.prog 27 #[vec A n c o K i] w fun e w' => e = .returned (.tuple #[.int .i64 (mostI (lst l o i K)), .int .i64 0]) ∧ Below w.heap.size w w' := by
  have HR := Lib.hid (fun a (h : a < K) => show o + a * i < n from by
    rcases hr with h0 | h0
    · omega
    · exact place_lt h0 h)
  have HAt := Lib.hid (fun W (hb : Below w.heap.size w W) k (hk : k < K) => sat_any A n c l o K i k W (hA.below hb) hl hn (HR.out k hk))
  have HRi := Lib.hid (fun W => right_any A n c o K i W (by omega) ho (by unfold I64; omega) hi)
  rw [hv] at HRi
  have HWl := Lib.hid (fun k => lst_wds hW o i K k)
  have HK := Lib.hid hK
  clear hA hW hl hn hr hv ho hi hK
  have HM := Lib.hid (show mostI (lst l o i K) = if K = 0 then -1 else (mostF (lst l o i K) K : Int) by unfold mostI; rw [lst_length])
  unfold vec at *
  go_enter Try.func27, Try.ntmps27
  have Ha0 := Lib.hid (Blk.new w 45 #[.slice A n c, .int .i64 o, .int .i64 K, .int .i64 i])
  have HB0 := Lib.hid ((Below.refl w.heap.size w).alloc (Nat.le_refl _) (.cells #[.slice A n c, .int .i64 o, .int .i64 K, .int .i64 i] 45))
  go_wp2_with fail
  refine (HRi.out _).mono ?_
  rintro e w1 ⟨rfl, hb⟩
  have Ha1 := Lib.hid (Ha0.out.nxt hb)
  have HB1 := Lib.hid (below_nx HB0.out hb)
  clear hb
  obtain ⟨a0, a1, a2, a3⟩ := cells4w Ha1.out
  by_cases h0 : K = 0
  · subst h0
    go_wp2_with fail
    go_ret2
    exact ⟨by rw [HM.out]; rfl, HB1.out⟩
  have k0 : ((K : Int) == 0) = false := by simp [h0]
  go_wp2_with fail
  clear a0 a1 a2 a3
  go_loopw [4, 14] (fun b a wr => ∃ q t : Nat, q ≤ K ∧ b = .int .i64 t ∧ a = .int .i64 q ∧ t = mostF (lst l o i K) q ∧ Below w.heap.size w wr ∧ Blk wr w.heap.size 45 #[.slice A n c, .int .i64 o, .int .i64 K, .int .i64 i]) (fun _ a _ => K - (intOf a).toNat)
  case atStart => exact ⟨0, 0, Nat.zero_le _, rfl, rfl, rfl, HB1.out, Ha1.out⟩
  case round =>
    obtain ⟨q, t, hq, rfl, rfl, ht, hbl, ha⟩ := hrel
    have HT := Lib.hid ht
    have HBl := Lib.hid hbl
    have Ha := Lib.hid ha
    clear ht hbl ha
    obtain ⟨a0, a1, a2, a3⟩ := cells4w Ha.out
    by_cases hlt : q < K
    · have htK : t < K := by
        rw [HT.out]
        by_cases hq0 : q = 0
        · subst hq0; exact hlt
        · have := mostF_lt (lst l o i K) q (by omega); omega
      have hstep : mostF (lst l o i K) (q + 1) = if gtB (absW ((lst l o i K).getD q 0)) (absW ((lst l o i K).getD t 0)) then q else t := by rw [mostF, ← HT.out]
      rw [lst_getD l o i hlt, lst_getD l o i htK] at hstep
      have hxl := HWl.out q
      have hyl := HWl.out t
      rw [lst_getD l o i hlt] at hxl
      rw [lst_getD l o i htK] at hyl
      have HC := Lib.hid (fun W (hb : Below wr.heap.size wr W) (j x : Nat) (hj : (j = q ∧ x = l.getD (o + q * i) 0) ∨ (j = t ∧ x = l.getD (o + t * i) 0)) =>
        show Calls Try.prog 53 #[.agg #[.slice A n c, .int .i64 o, .int .i64 K, .int .i64 i], .int .i64 j] W fun e w' => e = .returned (.float .f64 x) ∧ Below W.heap.size W w' from by
          rcases hj with ⟨rfl, rfl⟩ | ⟨rfl, rfl⟩
          · exact HAt.out W (below_nx HBl.out hb) _ hlt
          · exact HAt.out W (below_nx HBl.out hb) _ htK)
      obtain ⟨x, hx⟩ : ∃ x, l.getD (o + q * i) 0 = x := ⟨_, rfl⟩
      obtain ⟨y, hy⟩ : ∃ y, l.getD (o + t * i) 0 = y := ⟨_, rfl⟩
      rw [hx, hy] at HC hstep
      rw [hx] at hxl
      rw [hy] at hyl
      have HAb := Lib.hid (fun W (b : Nat) (hb : b = x ∨ b = y) => mabs_any b W (by rcases hb with rfl | rfl; exact hxl; exact hyl))
      have HSt := Lib.hid hstep
      have hqc : (q : Int) < (K : Int) := by omega
      have hq1 : q + 1 ≤ 1048576 := by have := HK.out; omega
      have HtK := Lib.hid htK
      clear hx hy hstep hxl hyl htK
      obtain ⟨gt, hgt⟩ : ∃ gt, gtB (absW x) (absW y) = gt := ⟨_, rfl⟩
      rw [hgt] at HSt
      have hgt2 : (FloatKind.f64.format.order (absW x) (absW y) == some .gt) = gt := hgt
      clear hgt
      go_wp2_with fail
      refine wp_region_inv [17, 18, 19, 20, 21, 22, 23, 24, 25] (fun d s W => (d 0 = true → s 17 = .agg #[.slice A n c, .int .i64 o, .int .i64 K, .int .i64 i]) ∧ (d 1 = true → s 18 = .int .i64 (q : Int)) ∧ (d 2 = true → s 19 = .float .f64 x) ∧ (d 3 = true → s 20 = .float .f64 (absW x)) ∧ (d 4 = true → s 21 = .agg #[.slice A n c, .int .i64 o, .int .i64 K, .int .i64 i]) ∧ (d 5 = true → s 22 = .int .i64 (t : Int)) ∧ (d 6 = true → s 23 = .float .f64 y) ∧ (d 7 = true → s 24 = .float .f64 (absW y)) ∧ (d 8 = true → s 25 = .bool gt) ∧ Below wr.heap.size wr W)
        rfl (by kernel_rfl) ?_ ?_ ?_
      · exact ⟨by simp, by simp, by simp, by simp, by simp, by simp, by simp, by simp, by simp, (Below.refl _ _).drew⟩
      · refine ⟨?_, ?_, ?_, ?_, ?_, ?_, ?_, ?_, ?_, trivial⟩
        all_goals
          intro d s W hJ hfr hd hdep
          simp only [List.mem_cons, forall_eq_or_imp, List.not_mem_nil, false_implies, implies_true, and_true, Region.binds] at hdep
          have f1 := hfr 1 (by decide)
          have f4 := hfr 4 (by decide)
          have f5 := hfr 5 (by decide)
          simp at f1 f4 f5 hdep
          obtain ⟨h0, h1, h2, h3, h4, h5, h6, h7, h8, hT⟩ := hJ
          unfold OpSteps
        · obtain ⟨p0, p1, p2, p3⟩ := cells4w (Ha.out.below hT Ha.out.lt)
          simp [go_sem, evS, f1, f4, f5, p0, p1, p2, p3]
          exact ⟨fun _ => by simp [sput], fun h => by simpa [sput] using h1 (by simpa [did] using h), fun h => by simpa [sput] using h2 (by simpa [did] using h), fun h => by simpa [sput] using h3 (by simpa [did] using h), fun h => by simpa [sput] using h4 (by simpa [did] using h), fun h => by simpa [sput] using h5 (by simpa [did] using h), fun h => by simpa [sput] using h6 (by simpa [did] using h), fun h => by simpa [sput] using h7 (by simpa [did] using h), fun h => by simpa [sput] using h8 (by simpa [did] using h), hT⟩
        · simp [go_sem, evS, f1, f4, f5]
          exact ⟨fun h => by simpa [sput] using h0 (by simpa [did] using h), fun _ => by simp [sput], fun h => by simpa [sput] using h2 (by simpa [did] using h), fun h => by simpa [sput] using h3 (by simpa [did] using h), fun h => by simpa [sput] using h4 (by simpa [did] using h), fun h => by simpa [sput] using h5 (by simpa [did] using h), fun h => by simpa [sput] using h6 (by simpa [did] using h), fun h => by simpa [sput] using h7 (by simpa [did] using h), fun h => by simpa [sput] using h8 (by simpa [did] using h), hT⟩
        · have g0 := h0 (by simp [hdep])
          have g1 := h1 (by simp [hdep])
          simp [go_sem, evS, f1, f4, f5, g0, g1]
          refine (HC.out W hT q x (.inl ⟨rfl, rfl⟩)).mono ?_
          rintro e W' ⟨rfl, hb⟩
          refine ⟨_, rfl, ?_⟩
          exact ⟨fun h => by simpa [sput] using h0 (by simpa [did] using h), fun h => by simpa [sput] using h1 (by simpa [did] using h), fun _ => by simp [sput], fun h => by simpa [sput] using h3 (by simpa [did] using h), fun h => by simpa [sput] using h4 (by simpa [did] using h), fun h => by simpa [sput] using h5 (by simpa [did] using h), fun h => by simpa [sput] using h6 (by simpa [did] using h), fun h => by simpa [sput] using h7 (by simpa [did] using h), fun h => by simpa [sput] using h8 (by simpa [did] using h), below_nx hT hb⟩
        · have g2 := h2 (by simp [hdep])
          simp [go_sem, evS, f1, f4, f5, g2]
          refine (HAb.out W x (.inl rfl)).mono ?_
          rintro e W' ⟨rfl, rfl⟩
          refine ⟨_, rfl, ?_⟩
          exact ⟨fun h => by simpa [sput] using h0 (by simpa [did] using h), fun h => by simpa [sput] using h1 (by simpa [did] using h), fun h => by simpa [sput] using h2 (by simpa [did] using h), fun _ => by simp [sput], fun h => by simpa [sput] using h4 (by simpa [did] using h), fun h => by simpa [sput] using h5 (by simpa [did] using h), fun h => by simpa [sput] using h6 (by simpa [did] using h), fun h => by simpa [sput] using h7 (by simpa [did] using h), fun h => by simpa [sput] using h8 (by simpa [did] using h), hT⟩
        · obtain ⟨p0, p1, p2, p3⟩ := cells4w (Ha.out.below hT Ha.out.lt)
          simp [go_sem, evS, f1, f4, f5, p0, p1, p2, p3]
          exact ⟨fun h => by simpa [sput] using h0 (by simpa [did] using h), fun h => by simpa [sput] using h1 (by simpa [did] using h), fun h => by simpa [sput] using h2 (by simpa [did] using h), fun h => by simpa [sput] using h3 (by simpa [did] using h), fun _ => by simp [sput], fun h => by simpa [sput] using h5 (by simpa [did] using h), fun h => by simpa [sput] using h6 (by simpa [did] using h), fun h => by simpa [sput] using h7 (by simpa [did] using h), fun h => by simpa [sput] using h8 (by simpa [did] using h), hT⟩
        · simp [go_sem, evS, f1, f4, f5]
          exact ⟨fun h => by simpa [sput] using h0 (by simpa [did] using h), fun h => by simpa [sput] using h1 (by simpa [did] using h), fun h => by simpa [sput] using h2 (by simpa [did] using h), fun h => by simpa [sput] using h3 (by simpa [did] using h), fun h => by simpa [sput] using h4 (by simpa [did] using h), fun _ => by simp [sput], fun h => by simpa [sput] using h6 (by simpa [did] using h), fun h => by simpa [sput] using h7 (by simpa [did] using h), fun h => by simpa [sput] using h8 (by simpa [did] using h), hT⟩
        · have g4 := h4 (by simp [hdep])
          have g5 := h5 (by simp [hdep])
          simp [go_sem, evS, f1, f4, f5, g4, g5]
          refine (HC.out W hT t y (.inr ⟨rfl, rfl⟩)).mono ?_
          rintro e W' ⟨rfl, hb⟩
          refine ⟨_, rfl, ?_⟩
          exact ⟨fun h => by simpa [sput] using h0 (by simpa [did] using h), fun h => by simpa [sput] using h1 (by simpa [did] using h), fun h => by simpa [sput] using h2 (by simpa [did] using h), fun h => by simpa [sput] using h3 (by simpa [did] using h), fun h => by simpa [sput] using h4 (by simpa [did] using h), fun h => by simpa [sput] using h5 (by simpa [did] using h), fun _ => by simp [sput], fun h => by simpa [sput] using h7 (by simpa [did] using h), fun h => by simpa [sput] using h8 (by simpa [did] using h), below_nx hT hb⟩
        · have g6 := h6 (by simp [hdep])
          simp [go_sem, evS, f1, f4, f5, g6]
          refine (HAb.out W y (.inr rfl)).mono ?_
          rintro e W' ⟨rfl, rfl⟩
          refine ⟨_, rfl, ?_⟩
          exact ⟨fun h => by simpa [sput] using h0 (by simpa [did] using h), fun h => by simpa [sput] using h1 (by simpa [did] using h), fun h => by simpa [sput] using h2 (by simpa [did] using h), fun h => by simpa [sput] using h3 (by simpa [did] using h), fun h => by simpa [sput] using h4 (by simpa [did] using h), fun h => by simpa [sput] using h5 (by simpa [did] using h), fun h => by simpa [sput] using h6 (by simpa [did] using h), fun _ => by simp [sput], fun h => by simpa [sput] using h8 (by simpa [did] using h), hT⟩
        · have g3 := h3 (by simp [hdep])
          have g7 := h7 (by simp [hdep])
          simp [go_sem, evS, f1, f4, f5, g3, g7, hgt2]
          exact ⟨fun h => by simpa [sput] using h0 (by simpa [did] using h), fun h => by simpa [sput] using h1 (by simpa [did] using h), fun h => by simpa [sput] using h2 (by simpa [did] using h), fun h => by simpa [sput] using h3 (by simpa [did] using h), fun h => by simpa [sput] using h4 (by simpa [did] using h), fun h => by simpa [sput] using h5 (by simpa [did] using h), fun h => by simpa [sput] using h6 (by simpa [did] using h), fun h => by simpa [sput] using h7 (by simpa [did] using h), fun _ => by simp [sput], hT⟩
      intro d s W hJ hd
      obtain ⟨h0, h1, h2, h3, h4, h5, h6, h7, h8, hT⟩ := hJ
      have hs25 := h8 (hd 8 (by decide))
      have HBr := Lib.hid (below_nx HBl.out hT)
      have Har := Lib.hid (Ha.out.below hT Ha.out.lt)
      clear h0 h1 h2 h3 h4 h5 h6 h7 h8 hT hd
      simp [setAll, hs25]
      clear hs25
      cases gt
      · go_wp2_with fail
        go_roundw
        case rel => exact ⟨q + 1, t, by omega, rfl, by go_num, by rw [HSt.out]; rfl, HBr.out, Har.out⟩
        case measure => simp [intOf]; omega
      · go_wp2_with fail
        go_roundw
        case rel => exact ⟨q + 1, q, by omega, rfl, by go_num, by rw [HSt.out]; rfl, HBr.out, Har.out⟩
        case measure => simp [intOf]; omega
    · obtain rfl : q = K := by omega
      have hqc : ¬ (q : Int) < (q : Int) := by omega
      go_wp2_with fail
      go_ret2
      exact ⟨by have e := HM.out; rw [if_neg h0, ← HT.out] at e; rw [e]; first | rfl | simp, HBl.out⟩
end Go.Proofs.Ytamndbeffbcppaa
