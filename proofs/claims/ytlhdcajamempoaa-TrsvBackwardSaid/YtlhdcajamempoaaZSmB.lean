/-
Sums' Dot, Asum, Most. Conditions: the lists have at most 2^20 numbers.
-/
import Derived.Test.YtlhdcajamempoaaSan
import Derived.Test.YtlhdcajamempoaaInv
set_option linter.unusedVariables false
set_option linter.unusedSimpArgs false
set_option linter.unnecessarySimpa false
namespace Go.Proofs.Ytlhdcajamempoaa
open Go.RowKit
attribute [local go_sem ↓] Go.wp_at_zero Go.wp_at_succ

theorem heldN8 {w W : World} {b0 o0 b1 o1 b2 o2 b3 o3 b4 o4 b5 o5 b6 o6 b7 o7 : Nat} {v0 v1 v2 v3 v4 v5 v6 v7 : Value} (h : W.cell? ⟨b0, o0, none⟩ = some v0 ∧ W.cell? ⟨b1, o1, none⟩ = some v1 ∧ W.cell? ⟨b2, o2, none⟩ = some v2 ∧ W.cell? ⟨b3, o3, none⟩ = some v3 ∧ W.cell? ⟨b4, o4, none⟩ = some v4 ∧ W.cell? ⟨b5, o5, none⟩ = some v5 ∧ W.cell? ⟨b6, o6, none⟩ = some v6 ∧ W.cell? ⟨b7, o7, none⟩ = some v7 ∧ Below w.heap.size w W) (m : Nat) :
    (W.drewN m).cell? ⟨b0, o0, none⟩ = some v0 ∧ (W.drewN m).cell? ⟨b1, o1, none⟩ = some v1 ∧ (W.drewN m).cell? ⟨b2, o2, none⟩ = some v2 ∧ (W.drewN m).cell? ⟨b3, o3, none⟩ = some v3 ∧ (W.drewN m).cell? ⟨b4, o4, none⟩ = some v4 ∧ (W.drewN m).cell? ⟨b5, o5, none⟩ = some v5 ∧ (W.drewN m).cell? ⟨b6, o6, none⟩ = some v6 ∧ (W.drewN m).cell? ⟨b7, o7, none⟩ = some v7 ∧ Below w.heap.size w (W.drewN m) :=
  ⟨h.1, h.2.1, h.2.2.1, h.2.2.2.1, h.2.2.2.2.1, h.2.2.2.2.2.1, h.2.2.2.2.2.2.1, h.2.2.2.2.2.2.2.1, below_drewN h.2.2.2.2.2.2.2.2 m⟩
theorem heldM8 {w W : World} {b0 o0 b1 o1 b2 o2 b3 o3 b4 o4 b5 o5 b6 o6 b7 o7 a : Nat} {v0 v1 v2 v3 v4 v5 v6 v7 : Value} (h : (W.drewN a).cell? ⟨b0, o0, none⟩ = some v0 ∧ (W.drewN a).cell? ⟨b1, o1, none⟩ = some v1 ∧ (W.drewN a).cell? ⟨b2, o2, none⟩ = some v2 ∧ (W.drewN a).cell? ⟨b3, o3, none⟩ = some v3 ∧ (W.drewN a).cell? ⟨b4, o4, none⟩ = some v4 ∧ (W.drewN a).cell? ⟨b5, o5, none⟩ = some v5 ∧ (W.drewN a).cell? ⟨b6, o6, none⟩ = some v6 ∧ (W.drewN a).cell? ⟨b7, o7, none⟩ = some v7 ∧ Below w.heap.size w (W.drewN a)) (m : Nat) :
    (W.drewN m).cell? ⟨b0, o0, none⟩ = some v0 ∧ (W.drewN m).cell? ⟨b1, o1, none⟩ = some v1 ∧ (W.drewN m).cell? ⟨b2, o2, none⟩ = some v2 ∧ (W.drewN m).cell? ⟨b3, o3, none⟩ = some v3 ∧ (W.drewN m).cell? ⟨b4, o4, none⟩ = some v4 ∧ (W.drewN m).cell? ⟨b5, o5, none⟩ = some v5 ∧ (W.drewN m).cell? ⟨b6, o6, none⟩ = some v6 ∧ (W.drewN m).cell? ⟨b7, o7, none⟩ = some v7 ∧ Below w.heap.size w (W.drewN m) :=
  ⟨h.1, h.2.1, h.2.2.1, h.2.2.2.1, h.2.2.2.2.1, h.2.2.2.2.2.1, h.2.2.2.2.2.2.1, h.2.2.2.2.2.2.2.1, ⟨(h.2.2.2.2.2.2.2.2).os, (h.2.2.2.2.2.2.2.2).tape, (h.2.2.2.2.2.2.2.2).output, (h.2.2.2.2.2.2.2.2).size, (h.2.2.2.2.2.2.2.2).block⟩⟩
theorem dot_step {l m : List Nat} {k s p r a b : Nat} (hs : Is s (dotF l m k)) (ha : l.getD k 0 = a) (hb : m.getD k 0 = b) (hal : a < 18446744073709551616) (hbl : b < 18446744073709551616) (hp : Comes .mul a b p) (hr : Comes .add s p r) : Is r (dotF l m (k + 1)) := by
  show Is r (fbin .add (dotF l m k) (fbin .mul (l.getD k 0) (m.getD k 0)))
  rw [ha, hb]
  exact hr.is_ hs (hp.is_ (Is.refl hal) (Is.refl hbl))
theorem wds_lst2 {l : List Nat} (h : Wds l) (o i K : Nat) : Wds (lst l o i K) := by
  intro b hb
  unfold lst at hb
  obtain ⟨j, _, rfl⟩ := List.mem_map.1 hb
  rcases Nat.lt_or_ge (o + j * i) l.length with h1 | h1
  · rw [getD_of_lt h1]; exact h.at_ _ h1
  · rw [getD_of_le h1]; omega
theorem lst_wds {l : List Nat} (h : Wds l) (o i K k : Nat) : (lst l o i K).getD k 0 < 18446744073709551616 := by
  have : ∀ (m : List Nat), Wds m → m.getD k 0 < 18446744073709551616 := by
    intro m hm
    rcases Nat.lt_or_ge k m.length with h1 | h1
    · rw [getD_of_lt h1]; exact hm.at_ k h1
    · rw [getD_of_le h1]; omega
  refine this _ fun b hb => ?_
  unfold lst at hb
  obtain ⟨j, _, rfl⟩ := List.mem_map.1 hb
  rcases Nat.lt_or_ge (o + j * i) l.length with h1 | h1
  · rw [getD_of_lt h1]; exact h.at_ _ h1
  · rw [getD_of_le h1]; omega

set_option maxRecDepth 100000 in
set_option maxHeartbeats 1000000 in
theorem dot_ok (A A' : Option Addr) (n c : Nat) (l : List Nat) (o K i : Nat) (n' c' : Nat) (l' : List Nat) (o' i' : Nat) (w : World) (hA : Row w A (f64s l)) (hA' : Row w A' (f64s l')) (hW : Wds l) (hW' : Wds l') (hl : l.length = n) (hl' : l'.length = n') (hn : n < 1048576) (hn' : n' < 1048576)
    (hr : K = 0 ∨ o + (K - 1) * i < n) (hr' : K = 0 ∨ o' + (K - 1) * i' < n') (hK : K < 1048576) (hv : vecB n o K i = true) (hv' : vecB n' o' K i' = true) (ho : I64 o) (hi : I64 i) (ho' : I64 o') (hi' : I64 i') :
    Calls Try.prog 49 #[vec A n c o K i, vec A' n' c' o' K i'] w fun e w' => ∃ r, e = .returned (.tuple #[.float .f64 r, .int .i64 0]) ∧ Is r (dotF (lst l o i K) (lst l' o' i' K) K) ∧ Below w.heap.size w w' := by
  have HR := Lib.hid (fun a (h : a < K) => show o + a * i < n from by
    rcases hr with h0 | h0
    · omega
    · exact place_lt h0 h)
  have HR' := Lib.hid (fun a (h : a < K) => show o' + a * i' < n' from by
    rcases hr' with h0 | h0
    · omega
    · exact place_lt h0 h)
  have HAt := Lib.hid (fun W (hb : Below w.heap.size w W) k (hk : k < K) => sat_any A n c l o K i k W (hA.below hb) hl hn (HR.out k hk))
  have HAt' := Lib.hid (fun W (hb : Below w.heap.size w W) k (hk : k < K) => sat_any A' n' c' l' o' K i' k W (hA'.below hb) hl' hn' (HR'.out k hk))
  have HRi := Lib.hid (fun W => right_any A n c o K i W (by omega) ho (by unfold I64; omega) hi)
  have HRi' := Lib.hid (fun W => right_any A' n' c' o' K i' W (by omega) ho' (by unfold I64; omega) hi')
  rw [hv] at HRi
  rw [hv'] at HRi'
  have HWl := Lib.hid (fun k => lst_wds hW o i K k)
  have HWl' := Lib.hid (fun k => lst_wds hW' o' i' K k)
  have HK := Lib.hid hK
  clear hA hA' hW hW' hl hl' hn hn' hr hr' hv hv' ho hi ho' hi' hK
  unfold vec at *
  go_enter Try.func49, Try.ntmps49
  have Ha0 := Lib.hid ((Blk.new w 32 #[.slice A n c, .int .i64 o, .int .i64 K, .int .i64 i]).alloc (.cells #[.slice A' n' c', .int .i64 o', .int .i64 K, .int .i64 i'] 32))
  have Hb0 := Lib.hid (Blk.new_ (w.alloc (.cells #[.slice A n c, .int .i64 o, .int .i64 K, .int .i64 i] 32)) 32 #[.slice A' n' c', .int .i64 o', .int .i64 K, .int .i64 i'] (w.heap.size + 1) (by simp))
  have HB0 := Lib.hid (((Below.refl w.heap.size w).alloc (Nat.le_refl _) (.cells #[.slice A n c, .int .i64 o, .int .i64 K, .int .i64 i] 32)).alloc (by simp) (.cells #[.slice A' n' c', .int .i64 o', .int .i64 K, .int .i64 i'] 32))
  go_wp2_with fail
  refine (HRi.out _).mono ?_
  rintro e w1 ⟨rfl, hb⟩
  have Ha1 := Lib.hid (Ha0.out.nxt hb)
  have Hb1 := Lib.hid (Hb0.out.nxt hb)
  have HB1 := Lib.hid (below_nx HB0.out hb)
  clear hb
  obtain ⟨b0, b1, b2, b3⟩ := cells4w Hb1.out
  go_wp2_with fail
  refine (HRi'.out _).mono ?_
  rintro e w2 ⟨rfl, hb⟩
  have Ha2 := Lib.hid (Ha1.out.nxt hb)
  have Hb2 := Lib.hid (Hb1.out.nxt hb)
  have HB2 := Lib.hid (below_nx HB1.out hb)
  clear hb b0 b1 b2 b3
  obtain ⟨a0, a1, a2, a3⟩ := cells4w Ha2.out
  obtain ⟨b0, b1, b2, b3⟩ := cells4w Hb2.out
  go_wp2_with fail
  clear a0 a1 a2 a3 b0 b1 b2 b3
  go_loopw [6, 25] (fun s a wr => ∃ q r : Nat, q ≤ K ∧ s = .float .f64 r ∧ a = .int .i64 q ∧ Is r (dotF (lst l o i K) (lst l' o' i' K) q) ∧ Below w.heap.size w wr ∧ Blk wr w.heap.size 32 #[.slice A n c, .int .i64 o, .int .i64 K, .int .i64 i] ∧ Blk wr (w.heap.size + 1) 32 #[.slice A' n' c', .int .i64 o', .int .i64 K, .int .i64 i']) (fun _ a _ => K - (intOf a).toNat)
  case atStart => exact ⟨0, 0, Nat.zero_le _, rfl, rfl, is_zero, HB2.out, Ha2.out, Hb2.out⟩
  case round =>
    obtain ⟨q, r, hq, rfl, rfl, his, hbl, ha, hb⟩ := hrel
    have HIs := Lib.hid his
    have HBl := Lib.hid hbl
    have Ha := Lib.hid ha
    have Hb := Lib.hid hb
    clear his hbl ha hb
    obtain ⟨a0, a1, a2, a3⟩ := cells4w Ha.out
    obtain ⟨b0, b1, b2, b3⟩ := cells4w Hb.out
    by_cases hlt : q < K
    · have HC := Lib.hid (fun W (hb : Below w.heap.size w W) => HAt.out W hb q hlt)
      have HC' := Lib.hid (fun W (hb : Below w.heap.size w W) => HAt'.out W hb q hlt)
      obtain ⟨x, hx⟩ : ∃ x, l.getD (o + q * i) 0 = x := ⟨_, rfl⟩
      obtain ⟨y, hy⟩ : ∃ y, l'.getD (o' + q * i') 0 = y := ⟨_, rfl⟩
      rw [hx] at HC
      rw [hy] at HC'
      have HX := Lib.hid ((lst_getD l o i hlt).trans hx)
      have HY := Lib.hid ((lst_getD l' o' i' hlt).trans hy)
      have HXl := Lib.hid (HWl.out q)
      have HYl := Lib.hid (HWl'.out q)
      rw [HX.out] at HXl
      rw [HY.out] at HYl
      have HSt := Lib.hid (fun p r' (hp : Comes .mul x y p) (hr' : Comes .add r p r') => dot_step HIs.out HX.out HY.out HXl.out HYl.out hp hr')
      have hqc : (q : Int) < (K : Int) := by omega
      have hq1 : q + 1 ≤ 1048576 := by have := HK.out; omega
      clear hx hy
      go_wp2_with fail
      refine wp_region_inv [28, 29, 30, 31, 32, 33, 34, 35, 36, 6] (fun d s W => (d 0 = true → s 28 = .float .f64 r) ∧ (d 1 = true → s 29 = .agg #[.slice A n c, .int .i64 o, .int .i64 K, .int .i64 i]) ∧ (d 2 = true → s 30 = .int .i64 (q : Int)) ∧ (d 3 = true → s 31 = .float .f64 x) ∧ (d 4 = true → s 32 = .agg #[.slice A' n' c', .int .i64 o', .int .i64 K, .int .i64 i']) ∧ (d 5 = true → s 33 = .int .i64 (q : Int)) ∧ (d 6 = true → s 34 = .float .f64 y) ∧ (d 7 = true → ∃ p, s 35 = .float .f64 p ∧ Comes .mul x y p) ∧ (d 8 = true → ∃ p, s 36 = .float .f64 p ∧ Is p (dotF (lst l o i K) (lst l' o' i' K) (q + 1))) ∧ (d 9 = true → ∃ p, s 6 = .float .f64 p ∧ Is p (dotF (lst l o i K) (lst l' o' i' K) (q + 1))) ∧ (d 9 = true → d 0 = true) ∧ (d 9 = false → s 6 = .float .f64 r) ∧ Below wr.heap.size wr W)
        rfl (by kernel_rfl) ?_ ?_ ?_
      · exact ⟨by simp, by simp, by simp, by simp, by simp, by simp, by simp, by simp, by simp, by simp, by simp, fun _ => by simp, (Below.refl _ _).drew⟩
      · refine ⟨?_, ?_, ?_, ?_, ?_, ?_, ?_, ?_, ?_, ?_, trivial⟩
        all_goals
          intro d s W hJ hfr hd hdep
          simp only [List.mem_cons, forall_eq_or_imp, List.not_mem_nil, false_implies, implies_true, and_true, Region.binds] at hdep
          have f2 := hfr 2 (by decide)
          have f3 := hfr 3 (by decide)
          have f7 := hfr 7 (by decide)
          simp at f2 f3 f7 hdep
          obtain ⟨h0, h1, h2, h3, h4, h5, h6, h7, h8, h9, x0, x1, hT⟩ := hJ
          unfold OpSteps
        · have hs6 := x1 (by cases h : d 9; rfl; have := x0 h; rw [hd] at this; cases this)
          simp [go_sem, evS, f2, f3, f7, hs6]
          exact ⟨fun _ => by simp [sput], fun h => by simpa [sput] using h1 (by simpa [did] using h), fun h => by simpa [sput] using h2 (by simpa [did] using h), fun h => by simpa [sput] using h3 (by simpa [did] using h), fun h => by simpa [sput] using h4 (by simpa [did] using h), fun h => by simpa [sput] using h5 (by simpa [did] using h), fun h => by simpa [sput] using h6 (by simpa [did] using h), fun h => by simpa [sput] using h7 (by simpa [did] using h), fun h => by simpa [sput] using h8 (by simpa [did] using h), fun h => by simpa [sput] using h9 (by simpa [did] using h), fun _ => by simp [did], by simpa [sput, did] using x1, hT⟩
        · obtain ⟨p0, p1, p2, p3⟩ := cells4w (Ha.out.below hT Ha.out.lt)
          simp [go_sem, evS, f2, f3, f7, p0, p1, p2, p3]
          exact ⟨fun h => by simpa [sput] using h0 (by simpa [did] using h), fun _ => by simp [sput], fun h => by simpa [sput] using h2 (by simpa [did] using h), fun h => by simpa [sput] using h3 (by simpa [did] using h), fun h => by simpa [sput] using h4 (by simpa [did] using h), fun h => by simpa [sput] using h5 (by simpa [did] using h), fun h => by simpa [sput] using h6 (by simpa [did] using h), fun h => by simpa [sput] using h7 (by simpa [did] using h), fun h => by simpa [sput] using h8 (by simpa [did] using h), fun h => by simpa [sput] using h9 (by simpa [did] using h), by simpa [sput, did] using x0, by simpa [sput, did] using x1, hT⟩
        · simp [go_sem, evS, f2, f3, f7]
          exact ⟨fun h => by simpa [sput] using h0 (by simpa [did] using h), fun h => by simpa [sput] using h1 (by simpa [did] using h), fun _ => by simp [sput], fun h => by simpa [sput] using h3 (by simpa [did] using h), fun h => by simpa [sput] using h4 (by simpa [did] using h), fun h => by simpa [sput] using h5 (by simpa [did] using h), fun h => by simpa [sput] using h6 (by simpa [did] using h), fun h => by simpa [sput] using h7 (by simpa [did] using h), fun h => by simpa [sput] using h8 (by simpa [did] using h), fun h => by simpa [sput] using h9 (by simpa [did] using h), by simpa [sput, did] using x0, by simpa [sput, did] using x1, hT⟩
        · have g1 := h1 (by simp [hdep])
          have g2 := h2 (by simp [hdep])
          simp [go_sem, evS, f2, f3, f7, g1, g2]
          refine (HC.out W (below_nx HBl.out hT)).mono ?_
          rintro e W' ⟨rfl, hb⟩
          refine ⟨_, rfl, ?_⟩
          exact ⟨fun h => by simpa [sput] using h0 (by simpa [did] using h), fun h => by simpa [sput] using h1 (by simpa [did] using h), fun h => by simpa [sput] using h2 (by simpa [did] using h), fun _ => by simp [sput], fun h => by simpa [sput] using h4 (by simpa [did] using h), fun h => by simpa [sput] using h5 (by simpa [did] using h), fun h => by simpa [sput] using h6 (by simpa [did] using h), fun h => by simpa [sput] using h7 (by simpa [did] using h), fun h => by simpa [sput] using h8 (by simpa [did] using h), fun h => by simpa [sput] using h9 (by simpa [did] using h), by simpa [sput, did] using x0, by simpa [sput, did] using x1, below_nx hT hb⟩
        · obtain ⟨p0, p1, p2, p3⟩ := cells4w (Hb.out.below hT Hb.out.lt)
          simp [go_sem, evS, f2, f3, f7, p0, p1, p2, p3]
          exact ⟨fun h => by simpa [sput] using h0 (by simpa [did] using h), fun h => by simpa [sput] using h1 (by simpa [did] using h), fun h => by simpa [sput] using h2 (by simpa [did] using h), fun h => by simpa [sput] using h3 (by simpa [did] using h), fun _ => by simp [sput], fun h => by simpa [sput] using h5 (by simpa [did] using h), fun h => by simpa [sput] using h6 (by simpa [did] using h), fun h => by simpa [sput] using h7 (by simpa [did] using h), fun h => by simpa [sput] using h8 (by simpa [did] using h), fun h => by simpa [sput] using h9 (by simpa [did] using h), by simpa [sput, did] using x0, by simpa [sput, did] using x1, hT⟩
        · simp [go_sem, evS, f2, f3, f7]
          exact ⟨fun h => by simpa [sput] using h0 (by simpa [did] using h), fun h => by simpa [sput] using h1 (by simpa [did] using h), fun h => by simpa [sput] using h2 (by simpa [did] using h), fun h => by simpa [sput] using h3 (by simpa [did] using h), fun h => by simpa [sput] using h4 (by simpa [did] using h), fun _ => by simp [sput], fun h => by simpa [sput] using h6 (by simpa [did] using h), fun h => by simpa [sput] using h7 (by simpa [did] using h), fun h => by simpa [sput] using h8 (by simpa [did] using h), fun h => by simpa [sput] using h9 (by simpa [did] using h), by simpa [sput, did] using x0, by simpa [sput, did] using x1, hT⟩
        · have g4 := h4 (by simp [hdep])
          have g5 := h5 (by simp [hdep])
          simp [go_sem, evS, f2, f3, f7, g4, g5]
          refine (HC'.out W (below_nx HBl.out hT)).mono ?_
          rintro e W' ⟨rfl, hb⟩
          refine ⟨_, rfl, ?_⟩
          exact ⟨fun h => by simpa [sput] using h0 (by simpa [did] using h), fun h => by simpa [sput] using h1 (by simpa [did] using h), fun h => by simpa [sput] using h2 (by simpa [did] using h), fun h => by simpa [sput] using h3 (by simpa [did] using h), fun h => by simpa [sput] using h4 (by simpa [did] using h), fun h => by simpa [sput] using h5 (by simpa [did] using h), fun _ => by simp [sput], fun h => by simpa [sput] using h7 (by simpa [did] using h), fun h => by simpa [sput] using h8 (by simpa [did] using h), fun h => by simpa [sput] using h9 (by simpa [did] using h), by simpa [sput, did] using x0, by simpa [sput, did] using x1, below_nx hT hb⟩
        · have g3 := h3 (by simp [hdep])
          have g6 := h6 (by simp [hdep])
          simp [go_sem, evS, f2, f3, f7, g3, g6]
          exact ⟨fun h => by simpa [sput] using h0 (by simpa [did] using h), fun h => by simpa [sput] using h1 (by simpa [did] using h), fun h => by simpa [sput] using h2 (by simpa [did] using h), fun h => by simpa [sput] using h3 (by simpa [did] using h), fun h => by simpa [sput] using h4 (by simpa [did] using h), fun h => by simpa [sput] using h5 (by simpa [did] using h), fun h => by simpa [sput] using h6 (by simpa [did] using h), fun _ => ⟨fres .mul W x y, by simp [sput], fres_comes _ _ _ _⟩, fun h => by simpa [sput] using h8 (by simpa [did] using h), fun h => by simpa [sput] using h9 (by simpa [did] using h), by simpa [sput, did] using x0, by simpa [sput, did] using x1, below_drewN hT _⟩
        · have g0 := h0 (by simp [hdep])
          have g7 := h7 (by simp [hdep])
          obtain ⟨p, gp, hp⟩ := g7
          simp [go_sem, evS, f2, f3, f7, g0, gp]
          exact ⟨fun h => by simpa [sput] using h0 (by simpa [did] using h), fun h => by simpa [sput] using h1 (by simpa [did] using h), fun h => by simpa [sput] using h2 (by simpa [did] using h), fun h => by simpa [sput] using h3 (by simpa [did] using h), fun h => by simpa [sput] using h4 (by simpa [did] using h), fun h => by simpa [sput] using h5 (by simpa [did] using h), fun h => by simpa [sput] using h6 (by simpa [did] using h), fun h => by simpa [sput] using h7 (by simpa [did] using h), fun _ => ⟨fres .add W r p, by simp [sput], HSt.out p _ hp (fres_comes _ _ _ _)⟩, fun h => by simpa [sput] using h9 (by simpa [did] using h), by simpa [sput, did] using x0, by simpa [sput, did] using x1, below_drewN hT _⟩
        · have g8 := h8 (by simp [hdep])
          obtain ⟨p, gp, hp⟩ := g8
          simp [go_sem, evS, f2, f3, f7, gp]
          exact ⟨fun h => by simpa [sput] using h0 (by simpa [did] using h), fun h => by simpa [sput] using h1 (by simpa [did] using h), fun h => by simpa [sput] using h2 (by simpa [did] using h), fun h => by simpa [sput] using h3 (by simpa [did] using h), fun h => by simpa [sput] using h4 (by simpa [did] using h), fun h => by simpa [sput] using h5 (by simpa [did] using h), fun h => by simpa [sput] using h6 (by simpa [did] using h), fun h => by simpa [sput] using h7 (by simpa [did] using h), fun h => by simpa [sput] using h8 (by simpa [did] using h), fun _ => ⟨p, by simp [sput], hp⟩, fun _ => by simp [did, hdep], fun h => by simp [did] at h, hT⟩
      intro d s W hJ hd
      obtain ⟨h0, h1, h2, h3, h4, h5, h6, h7, h8, h9, x0, x1, hT⟩ := hJ
      obtain ⟨p, hs6, hp⟩ := h9 (hd 9 (by decide))
      have HRes := Lib.hid hp
      have HBr := Lib.hid (below_nx HBl.out hT)
      have Har := Lib.hid (Ha.out.below hT Ha.out.lt)
      have Hbr := Lib.hid (Hb.out.below hT Hb.out.lt)
      clear h0 h1 h2 h3 h4 h5 h6 h7 h8 h9 x0 x1 hT hp hd
      simp [setAll, hs6]
      clear hs6
      go_wp2_with fail
      go_roundw
      case rel => exact ⟨q + 1, p, by omega, rfl, by go_num, HRes.out, HBr.out, Har.out, Hbr.out⟩
      case measure => simp [intOf]; omega
    · obtain rfl : q = K := by omega
      have hqc : ¬ (q : Int) < (q : Int) := by omega
      go_wp2_with fail
      go_ret2
      exact ⟨_, rfl, HIs.out, HBl.out⟩
end Go.Proofs.Ytlhdcajamempoaa
