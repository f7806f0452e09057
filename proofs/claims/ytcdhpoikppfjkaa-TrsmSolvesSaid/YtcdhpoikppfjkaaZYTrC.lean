/-
Trsv: is a number on the diagonal 0; one step of a solution; one sum. Conditions: as each says.
-/
import Derived.Test.YtcdhpoikppfjkaaZYTrB
set_option linter.unusedVariables false
set_option linter.unusedSimpArgs false
set_option linter.unnecessarySimpa false
namespace Go.Proofs.Ytcdhpoikppfjkaa
open Go.RowKit
attribute [local go_sem ↓] Go.wp_at_zero Go.wp_at_succ

/-- Is it 0? -/
def trZ0 (b : Nat) : Bool := FloatKind.f64.format.order b 0 == some .eq
theorem trZ0_one : trZ0 4607182418800017408 = false := by decide +kernel
/-- Is one on the diagonal 0? -/
def trHZ (kd : Nat) (f : Nat → Nat → Nat) (R : Nat) : Bool := (List.range R).any fun i => trZ0 (trV kd f i i)
theorem trHZ_step {kd : Nat} {f : Nat → Nat → Nat} {i : Nat} (h : trHZ kd f i = false) (hz : trZ0 (trV kd f i i) = false) : trHZ kd f (i + 1) = false := by
  unfold trHZ at *
  rw [List.range_succ, List.any_append, h]
  simp [hz]
theorem trHZ_true {kd : Nat} {f : Nat → Nat → Nat} {i R : Nat} (hi : i < R) (hz : trZ0 (trV kd f i i) = true) : trHZ kd f R = true := by
  unfold trHZ
  rw [List.any_eq_true]
  exact ⟨i, List.mem_range.2 hi, hz⟩
theorem trV_lt {kd : Nat} {f : Nat → Nat → Nat} {i k : Nat} (h : ∀ i k, f i k < 18446744073709551616) : trV kd f i k < 18446744073709551616 := by
  unfold trV
  split
  · split
    · omega
    · exact h _ _
  · split
    · exact h _ _
    · split
      · split
        · omega
        · exact h _ _
      · exact h _ _
theorem tr_wds {l : List Nat} (h : Wds l) (k : Nat) : l.getD k 0 < 18446744073709551616 := by
  rcases Nat.lt_or_ge k l.length with h1 | h1
  · rw [getD_of_lt h1]; exact h.at_ k h1
  · rw [getD_of_le h1]; omega
set_option maxHeartbeats 1000000 in
theorem trhaszero_any (kd : Nat) (hkd : kd = 1 ∨ kd = 2 ∨ kd = 3 ∨ kd = 4) (A : Option Addr) (n c o R L : Nat) (f : Nat → Nat → Nat) (w : World) (hM : MxC w A o R L f) (hn : n < 1048576) (hLI : I64 L) (hRb : R < 1048576) (hL1 : 1 ≤ L) (hRL : R ≤ L) (hmr : R = 0 ∨ R = 0 ∨ o + (R - 1) * L + (R - 1) < n) :
    Calls Try.prog 51 #[tri (kd : Int) A n c o R R L] w fun e w' => e = .returned (.bool (trHZ kd f R)) ∧ Below w.heap.size w w' := by
  have HN := Lib.hid (fun i (hi : i < R) W (hb : Below w.heap.size w W) => trnum_any kd hkd A n c o R L f i i W (hM.below hb) hn hLI hRb hL1 hRL hmr hi hi)
  clear hkd hM hn hLI hL1 hRL hmr
  unfold tri at *
  go_enter Try.func51, Try.ntmps51
  have HZ := Lib.hid (Blk.new w 80 #[.int .i64 (kd : Int), .slice A n c, .int .i64 o, .int .i64 R, .int .i64 R, .int .i64 L])
  have HB0 := Lib.hid ((Below.refl w.heap.size w).alloc (Nat.le_refl _) (.cells #[.int .i64 (kd : Int), .slice A n c, .int .i64 o, .int .i64 R, .int .i64 R, .int .i64 L] 80))
  obtain ⟨z0, z1, z2, z3, z4, z5⟩ := cells6 HZ.out
  go_wp2_with fail
  clear z0 z1 z2 z3 z4 z5
  go_loopw [9] (fun x wr => ∃ i1 : Nat, i1 ≤ R ∧ x = .int .i64 (i1 : Int) ∧ Hid (trHZ kd f i1 = false ∧ Blk wr w.heap.size 80 #[.int .i64 (kd : Int), .slice A n c, .int .i64 o, .int .i64 R, .int .i64 R, .int .i64 L] ∧ Below w.heap.size w wr)) (fun x _ => R - (intOf x).toNat)
  case atStart => exact ⟨0, Nat.zero_le _, rfl, Lib.hid ⟨rfl, HZ.out, HB0.out⟩⟩
  case round =>
    obtain ⟨i1, hi1, rfl, HS⟩ := hrel
    by_cases hlt : i1 < R
    · have har : (i1 : Int) < (R : Int) := by omega
      have ha1 : i1 + 1 ≤ 1048576 := by omega
      have HNi := Lib.hid (HN.out i1 hlt)
      have HT := Lib.hid (fun (h : trZ0 (trV kd f i1 i1) = true) => trHZ_true (R := R) hlt h)
      have HF := Lib.hid (fun (h : trZ0 (trV kd f i1 i1) = false) => trHZ_step HS.out.1 h)
      obtain ⟨v, hv⟩ : ∃ v, trV kd f i1 i1 = v := ⟨_, rfl⟩
      rw [hv] at HNi HT HF
      clear hv
      have HBw := Lib.hid HS.out.2.2
      obtain ⟨z0, z1, z2, z3, z4, z5⟩ := cells6 HS.out.2.1
      go_wp2_with fail
      refine (HNi.out _ HS.out.2.2).mono ?_
      rintro e wa ⟨rfl, hb⟩
      have HZ2 := Lib.hid (HS.out.2.1.nxt hb)
      have HB2 := Lib.hid (below_nx HS.out.2.2 hb)
      clear hb z0 z1 z2 z3 z4 z5
      obtain ⟨q, hq⟩ : ∃ q, trZ0 v = q := ⟨_, rfl⟩
      rw [hq] at HT HF
      unfold trZ0 at hq
      cases q
      · replace HF := Lib.hid (HF.out rfl)
        go_wp2_with fail
        go_roundw
        case rel => exact ⟨i1 + 1, by omega, by go_num, Lib.hid ⟨HF.out, HZ2.out, HB2.out⟩⟩
        case measure => simp [intOf]; omega
      · replace HT := Lib.hid (HT.out rfl)
        go_wp2_with fail
        go_ret
        exact ⟨ret_bool HT.out.symm, HB2.out⟩
    · obtain rfl : R = i1 := by omega
      have hbb : ¬ (R : Int) < (R : Int) := by omega
      obtain ⟨z0, z1, z2, z3, z4, z5⟩ := cells6 HS.out.2.1
      go_wp2_with fail
      go_ret
      exact ⟨ret_bool HS.out.1.symm, HS.out.2.2⟩

set_option maxRecDepth 100000 in
set_option maxHeartbeats 2000000 in
theorem trtakeoff_any (kd : Nat) (hkd : kd = 1 ∨ kd = 2 ∨ kd = 3 ∨ kd = 4) (A : Option Addr) (n c o R L : Nat) (f : Nat → Nat → Nat) (i k : Nat) (ly : List Nat) (gx nx cx ox K ix : Nat) (w : World) (hM : MxC w A o R L f) (hn : n < 1048576) (hLI : I64 L) (hRb : R < 1048576) (hL1 : 1 ≤ L) (hRL : R ≤ L) (hmr : R = 0 ∨ R = 0 ∨ o + (R - 1) * L + (R - 1) < n) (hi : i < R) (hk : k < R) (hX : Own w gx ly) (hly : ly.length = nx) (hnx : nx < 1048576) (hPi : ox + i * ix < nx) (hPk : ox + k * ix < nx) :
    Calls Try.prog 62 #[tri (kd : Int) A n c o R R L, vec (some ⟨gx, 0, none⟩) nx cx ox K ix, .int .i64 i, .int .i64 k] w fun e w' => e = .returned (.tuple #[]) ∧ StoredR gx (ox + i * ix) (fun r => ∃ p, Comes .mul (trV kd f i k) (ly.getD (ox + k * ix) 0) p ∧ Comes .sub (ly.getD (ox + i * ix) 0) p r) w w' := by
  have HN := Lib.hid (fun W (hb : Below w.heap.size w W) => trnum_any kd hkd A n c o R L f i k W (hM.below hb) hn hLI hRb hL1 hRL hmr hi hk)
  have HPi := Lib.hid (fun W => trplace_any (some ⟨gx, 0, none⟩) nx cx ox K ix i W (by omega))
  have HPk := Lib.hid (fun W => trplace_any (some ⟨gx, 0, none⟩) nx cx ox K ix k W (by omega))
  have hli : ox + i * ix < ly.length := by omega
  have HCi0 := Lib.hid (hX.get _ hli)
  have HFz0 := Lib.hid (hX.frozen (ox + i * ix))
  have HXl := Lib.hid hX.lt
  rw [← getD_of_lt hli] at HCi0
  have hlk : ox + k * ix < ly.length := by omega
  have HCk0 := Lib.hid (hX.get _ hlk)
  rw [← getD_of_lt hlk] at HCk0
  obtain ⟨v, hv⟩ : ∃ v, trV kd f i k = v := ⟨_, rfl⟩
  rw [hv] at HN ⊢
  obtain ⟨yi, hyi⟩ : ∃ y, ly.getD (ox + i * ix) 0 = y := ⟨_, rfl⟩
  rw [hyi] at HCi0 ⊢
  obtain ⟨yk, hyk⟩ : ∃ y, ly.getD (ox + k * ix) 0 = y := ⟨_, rfl⟩
  rw [hyk] at HCk0 ⊢
  obtain ⟨P, hP⟩ : ∃ P, ox + i * ix = P := ⟨_, rfl⟩
  rw [hP] at HCi0 HFz0 HPi hPi ⊢
  obtain ⟨Q, hQ⟩ : ∃ Q, ox + k * ix = Q := ⟨_, rfl⟩
  rw [hQ] at HCk0 HPk hPk
  have b3 := hPk
  have b2 := hPi
  clear hv hyi hP hli hkd hM hn hLI hRb hL1 hRL hmr hi hX hly hnx hPi hyk hQ hlk hk hPk
  unfold tri vec at *
  go_enter Try.func62, Try.ntmps62
  have HX0 := Lib.hid (Blk.new_ (w.alloc (.cells #[.int .i64 (kd : Int), .slice A n c, .int .i64 o, .int .i64 R, .int .i64 R, .int .i64 L] 80)) 66 #[.slice (some ⟨gx, 0, none⟩) nx cx, .int .i64 ox, .int .i64 K, .int .i64 ix] (w.heap.size + 1) (by simp))
  have HZ0 := Lib.hid ((Blk.new w 80 #[.int .i64 (kd : Int), .slice A n c, .int .i64 o, .int .i64 R, .int .i64 R, .int .i64 L]).alloc (.cells #[.slice (some ⟨gx, 0, none⟩) nx cx, .int .i64 ox, .int .i64 K, .int .i64 ix] 66))
  have HB0 := Lib.hid (((Below.refl w.heap.size w).alloc (Nat.le_refl _) (.cells #[.int .i64 (kd : Int), .slice A n c, .int .i64 o, .int .i64 R, .int .i64 R, .int .i64 L] 80)).alloc (by simp) (.cells #[.slice (some ⟨gx, 0, none⟩) nx cx, .int .i64 ox, .int .i64 K, .int .i64 ix] 66))
  obtain ⟨z0, z1, z2, z3, z4, z5⟩ := cells6 HZ0.out
  obtain ⟨x0, x1, x2, x3⟩ := cells4w HX0.out
  go_wp2_with fail
  refine (HN.out _ HB0.out).mono ?_
  rintro e w1 ⟨rfl, hb⟩
  have HX1 := Lib.hid (HX0.out.nxt hb)
  have HB1 := Lib.hid (below_nx HB0.out hb)
  have HCi := Lib.hid (cell_below HCi0.out HB1.out)
  have HFz := Lib.hid (frz_belowr HFz0.out HXl.out HB1.out)
  have hlt0 : gx < w1.heap.size := block_lt HCi.out
  have HCk := Lib.hid (cell_below HCk0.out HB1.out)
  clear hb z0 z1 z2 z3 z4 z5 x0 x1 x2 x3
  go_wp2_with fail
  refine wp_region_inv [17, 18, 19, 20, 21, 22, 23, 24, 25, 26, 27, 28, 29, 30, 31, 32, 33, 34] (fun d s W => (d 0 = true → s 17 = .pointer (some ⟨w.heap.size + 1, 0, none⟩)) ∧ (d 1 = true → s 18 = .slice (some ⟨gx, 0, none⟩) nx cx) ∧ (d 2 = true → s 19 = .agg #[.slice (some ⟨gx, 0, none⟩) nx cx, .int .i64 (ox : Int), .int .i64 (K : Int), .int .i64 (ix : Int)]) ∧ (d 3 = true → s 20 = .int .i64 (i : Int)) ∧ (d 4 = true → s 21 = .int .i64 (P : Int)) ∧ (d 5 = true → s 22 = .pointer (some ⟨gx, P, none⟩)) ∧ (d 6 = true → s 23 = .float .f64 yi) ∧ (d 7 = true → s 24 = .float .f64 v) ∧ (d 8 = true → s 25 = .pointer (some ⟨w.heap.size + 1, 0, none⟩)) ∧ (d 9 = true → s 26 = .slice (some ⟨gx, 0, none⟩) nx cx) ∧ (d 10 = true → s 27 = .agg #[.slice (some ⟨gx, 0, none⟩) nx cx, .int .i64 (ox : Int), .int .i64 (K : Int), .int .i64 (ix : Int)]) ∧ (d 11 = true → s 28 = .int .i64 (k : Int)) ∧ (d 12 = true → s 29 = .int .i64 (Q : Int)) ∧ (d 13 = true → s 30 = .pointer (some ⟨gx, Q, none⟩)) ∧ (d 14 = true → s 31 = .float .f64 yk) ∧ (d 15 = true → ∃ p, s 32 = .float .f64 p ∧ Comes .mul v yk p) ∧ (d 16 = true → ∃ r, s 33 = .float .f64 r ∧ ∃ p, Comes .mul v yk p ∧ Comes .sub yi p r) ∧ (d 17 = true → s 34 = .pointer (some ⟨gx, P, none⟩)) ∧ (d 1 = true → d 0 = true) ∧ (d 4 = true → d 2 = true ∧ d 3 = true) ∧ (d 5 = true → d 0 = true ∧ d 1 = true ∧ d 2 = true ∧ d 3 = true ∧ d 4 = true) ∧ (d 6 = true → d 0 = true ∧ d 1 = true ∧ d 2 = true ∧ d 3 = true ∧ d 4 = true ∧ d 5 = true) ∧ (d 9 = true → d 8 = true) ∧ (d 12 = true → d 10 = true ∧ d 11 = true) ∧ (d 13 = true → d 8 = true ∧ d 9 = true ∧ d 10 = true ∧ d 11 = true ∧ d 12 = true) ∧ (d 14 = true → d 8 = true ∧ d 9 = true ∧ d 10 = true ∧ d 11 = true ∧ d 12 = true ∧ d 13 = true) ∧ (d 15 = true → d 7 = true ∧ d 8 = true ∧ d 9 = true ∧ d 10 = true ∧ d 11 = true ∧ d 12 = true ∧ d 13 = true ∧ d 14 = true) ∧ (d 16 = true → d 0 = true ∧ d 1 = true ∧ d 2 = true ∧ d 3 = true ∧ d 4 = true ∧ d 5 = true ∧ d 6 = true ∧ d 7 = true ∧ d 8 = true ∧ d 9 = true ∧ d 10 = true ∧ d 11 = true ∧ d 12 = true ∧ d 13 = true ∧ d 14 = true ∧ d 15 = true) ∧ (d 17 = true → d 0 = true ∧ d 1 = true ∧ d 2 = true ∧ d 3 = true ∧ d 4 = true) ∧ (d 18 = true → d 0 = true ∧ d 1 = true ∧ d 2 = true ∧ d 3 = true ∧ d 4 = true ∧ d 5 = true ∧ d 6 = true ∧ d 7 = true ∧ d 8 = true ∧ d 9 = true ∧ d 10 = true ∧ d 11 = true ∧ d 12 = true ∧ d 13 = true ∧ d 14 = true ∧ d 15 = true ∧ d 16 = true ∧ d 17 = true) ∧ ((d 18 = false → Below w1.heap.size w1 W) ∧ (d 18 = true → StoredR gx P (fun r => ∃ p, Comes .mul v yk p ∧ Comes .sub yi p r) w1 W)))
    rfl (by kernel_rfl) ?_ ?_ ?_
  · exact ⟨by simp, by simp, by simp, by simp, by simp, by simp, by simp, by simp, by simp, by simp, by simp, by simp, by simp, by simp, by simp, by simp, by simp, by simp, by simp, by simp, by simp, by simp, by simp, by simp, by simp, by simp, by simp, by simp, by simp, by simp, ⟨fun _ => (Below.refl _ _).drew, fun h => by simp at h⟩⟩
  · refine ⟨?_, ?_, ?_, ?_, ?_, ?_, ?_, ?_, ?_, ?_, ?_, ?_, ?_, ?_, ?_, ?_, ?_, ?_, ?_, trivial⟩
    all_goals
      intro d s W hJ hfr hd hdep
      simp only [List.mem_cons, forall_eq_or_imp, List.not_mem_nil, false_implies, implies_true, and_true, Region.binds] at hdep
      have f2 := hfr 2 (by decide)
      have f3 := hfr 3 (by decide)
      have f5 := hfr 5 (by decide)
      have f8 := hfr 8 (by decide)
      simp at f2 f3 f5 f8 hdep
      obtain ⟨h0, h1, h2, h3, h4, h5, h6, h7, h8, h9, h10, h11, h12, h13, h14, h15, h16, h17, x0, x1, x2, x3, x4, x5, x6, x7, x8, x9, x10, x11, hT⟩ := hJ
    · as_aux_lemma =>
        have hl : d 18 = false := by
          cases h : d 18
          · rfl
          · have := x11 h; simp [hd] at this
        replace hT := hT.1 hl
        unfold OpSteps
        simp [go_sem, evS, f5]
        exact ⟨fun _ => by simp [sput], fun h => by simpa [sput] using h1 (by simpa [did] using h), fun h => by simpa [sput] using h2 (by simpa [did] using h), fun h => by simpa [sput] using h3 (by simpa [did] using h), fun h => by simpa [sput] using h4 (by simpa [did] using h), fun h => by simpa [sput] using h5 (by simpa [did] using h), fun h => by simpa [sput] using h6 (by simpa [did] using h), fun h => by simpa [sput] using h7 (by simpa [did] using h), fun h => by simpa [sput] using h8 (by simpa [did] using h), fun h => by simpa [sput] using h9 (by simpa [did] using h), fun h => by simpa [sput] using h10 (by simpa [did] using h), fun h => by simpa [sput] using h11 (by simpa [did] using h), fun h => by simpa [sput] using h12 (by simpa [did] using h), fun h => by simpa [sput] using h13 (by simpa [did] using h), fun h => by simpa [sput] using h14 (by simpa [did] using h), fun h => by simpa [sput] using h15 (by simpa [did] using h), fun h => by simpa [sput] using h16 (by simpa [did] using h), fun h => by simpa [sput] using h17 (by simpa [did] using h), fun h => by have := x0 (by simpa [did] using h); simp [did, this], fun h => by have := x1 (by simpa [did] using h); simp [did, this], fun h => by have := x2 (by simpa [did] using h); simp [did, this], fun h => by have := x3 (by simpa [did] using h); simp [did, this], fun h => by have := x4 (by simpa [did] using h); simp [did, this], fun h => by have := x5 (by simpa [did] using h); simp [did, this], fun h => by have := x6 (by simpa [did] using h); simp [did, this], fun h => by have := x7 (by simpa [did] using h); simp [did, this], fun h => by have := x8 (by simpa [did] using h); simp [did, this], fun h => by have := x9 (by simpa [did] using h); simp [did, this], fun h => by have := x10 (by simpa [did] using h); simp [did, this], fun h => by have := x11 (by simpa [did] using h); simp [did, this], ⟨fun _ => hT, fun h => by simp [did, hl] at h⟩⟩
    · as_aux_lemma =>
        have hl : d 18 = false := by
          cases h : d 18
          · rfl
          · have := x11 h; simp [hd] at this
        replace hT := hT.1 hl
        have g0 := h0 (by simp [hdep])
        unfold OpSteps
        obtain ⟨p0, p1, p2, p3⟩ := cells4w (HX1.out.below hT HX1.out.lt)
        simp [go_sem, evS, g0, p0, p1, p2, p3]
        exact ⟨fun h => by simpa [sput] using h0 (by simpa [did] using h), fun _ => by simp [sput], fun h => by simpa [sput] using h2 (by simpa [did] using h), fun h => by simpa [sput] using h3 (by simpa [did] using h), fun h => by simpa [sput] using h4 (by simpa [did] using h), fun h => by simpa [sput] using h5 (by simpa [did] using h), fun h => by simpa [sput] using h6 (by simpa [did] using h), fun h => by simpa [sput] using h7 (by simpa [did] using h), fun h => by simpa [sput] using h8 (by simpa [did] using h), fun h => by simpa [sput] using h9 (by simpa [did] using h), fun h => by simpa [sput] using h10 (by simpa [did] using h), fun h => by simpa [sput] using h11 (by simpa [did] using h), fun h => by simpa [sput] using h12 (by simpa [did] using h), fun h => by simpa [sput] using h13 (by simpa [did] using h), fun h => by simpa [sput] using h14 (by simpa [did] using h), fun h => by simpa [sput] using h15 (by simpa [did] using h), fun h => by simpa [sput] using h16 (by simpa [did] using h), fun h => by simpa [sput] using h17 (by simpa [did] using h), fun _ => by simp [did, hdep], fun h => by have := x1 (by simpa [did] using h); simp [did, this], fun h => by have := x2 (by simpa [did] using h); simp [did, this], fun h => by have := x3 (by simpa [did] using h); simp [did, this], fun h => by have := x4 (by simpa [did] using h); simp [did, this], fun h => by have := x5 (by simpa [did] using h); simp [did, this], fun h => by have := x6 (by simpa [did] using h); simp [did, this], fun h => by have := x7 (by simpa [did] using h); simp [did, this], fun h => by have := x8 (by simpa [did] using h); simp [did, this], fun h => by have := x9 (by simpa [did] using h); simp [did, this], fun h => by have := x10 (by simpa [did] using h); simp [did, this], fun h => by have := x11 (by simpa [did] using h); simp [did, this], ⟨fun _ => hT, fun h => by simp [did, hl] at h⟩⟩
    · as_aux_lemma =>
        have hl : d 18 = false := by
          cases h : d 18
          · rfl
          · have := x11 h; simp [hd] at this
        replace hT := hT.1 hl
        unfold OpSteps
        obtain ⟨p0, p1, p2, p3⟩ := cells4w (HX1.out.below hT HX1.out.lt)
        simp [go_sem, evS, f5, p0, p1, p2, p3]
        exact ⟨fun h => by simpa [sput] using h0 (by simpa [did] using h), fun h => by simpa [sput] using h1 (by simpa [did] using h), fun _ => by simp [sput], fun h => by simpa [sput] using h3 (by simpa [did] using h), fun h => by simpa [sput] using h4 (by simpa [did] using h), fun h => by simpa [sput] using h5 (by simpa [did] using h), fun h => by simpa [sput] using h6 (by simpa [did] using h), fun h => by simpa [sput] using h7 (by simpa [did] using h), fun h => by simpa [sput] using h8 (by simpa [did] using h), fun h => by simpa [sput] using h9 (by simpa [did] using h), fun h => by simpa [sput] using h10 (by simpa [did] using h), fun h => by simpa [sput] using h11 (by simpa [did] using h), fun h => by simpa [sput] using h12 (by simpa [did] using h), fun h => by simpa [sput] using h13 (by simpa [did] using h), fun h => by simpa [sput] using h14 (by simpa [did] using h), fun h => by simpa [sput] using h15 (by simpa [did] using h), fun h => by simpa [sput] using h16 (by simpa [did] using h), fun h => by simpa [sput] using h17 (by simpa [did] using h), fun h => by have := x0 (by simpa [did] using h); simp [did, this], fun h => by have := x1 (by simpa [did] using h); simp [did, this], fun h => by have := x2 (by simpa [did] using h); simp [did, this], fun h => by have := x3 (by simpa [did] using h); simp [did, this], fun h => by have := x4 (by simpa [did] using h); simp [did, this], fun h => by have := x5 (by simpa [did] using h); simp [did, this], fun h => by have := x6 (by simpa [did] using h); simp [did, this], fun h => by have := x7 (by simpa [did] using h); simp [did, this], fun h => by have := x8 (by simpa [did] using h); simp [did, this], fun h => by have := x9 (by simpa [did] using h); simp [did, this], fun h => by have := x10 (by simpa [did] using h); simp [did, this], fun h => by have := x11 (by simpa [did] using h); simp [did, this], ⟨fun _ => hT, fun h => by simp [did, hl] at h⟩⟩
    · as_aux_lemma =>
        have hl : d 18 = false := by
          cases h : d 18
          · rfl
          · have := x11 h; simp [hd] at this
        replace hT := hT.1 hl
        unfold OpSteps
        simp [go_sem, evS, f2]
        exact ⟨fun h => by simpa [sput] using h0 (by simpa [did] using h), fun h => by simpa [sput] using h1 (by simpa [did] using h), fun h => by simpa [sput] using h2 (by simpa [did] using h), fun _ => by simp [sput], fun h => by simpa [sput] using h4 (by simpa [did] using h), fun h => by simpa [sput] using h5 (by simpa [did] using h), fun h => by simpa [sput] using h6 (by simpa [did] using h), fun h => by simpa [sput] using h7 (by simpa [did] using h), fun h => by simpa [sput] using h8 (by simpa [did] using h), fun h => by simpa [sput] using h9 (by simpa [did] using h), fun h => by simpa [sput] using h10 (by simpa [did] using h), fun h => by simpa [sput] using h11 (by simpa [did] using h), fun h => by simpa [sput] using h12 (by simpa [did] using h), fun h => by simpa [sput] using h13 (by simpa [did] using h), fun h => by simpa [sput] using h14 (by simpa [did] using h), fun h => by simpa [sput] using h15 (by simpa [did] using h), fun h => by simpa [sput] using h16 (by simpa [did] using h), fun h => by simpa [sput] using h17 (by simpa [did] using h), fun h => by have := x0 (by simpa [did] using h); simp [did, this], fun h => by have := x1 (by simpa [did] using h); simp [did, this], fun h => by have := x2 (by simpa [did] using h); simp [did, this], fun h => by have := x3 (by simpa [did] using h); simp [did, this], fun h => by have := x4 (by simpa [did] using h); simp [did, this], fun h => by have := x5 (by simpa [did] using h); simp [did, this], fun h => by have := x6 (by simpa [did] using h); simp [did, this], fun h => by have := x7 (by simpa [did] using h); simp [did, this], fun h => by have := x8 (by simpa [did] using h); simp [did, this], fun h => by have := x9 (by simpa [did] using h); simp [did, this], fun h => by have := x10 (by simpa [did] using h); simp [did, this], fun h => by have := x11 (by simpa [did] using h); simp [did, this], ⟨fun _ => hT, fun h => by simp [did, hl] at h⟩⟩
    · as_aux_lemma =>
        have hl : d 18 = false := by
          cases h : d 18
          · rfl
          · have := x11 h; simp [hd] at this
        replace hT := hT.1 hl
        have g2 := h2 (by simp [hdep])
        have g3 := h3 (by simp [hdep])
        unfold OpSteps
        simp [go_sem, evS, g2, g3]
        refine (HPi.out W).mono ?_
        rintro e W' ⟨rfl, hb⟩
        refine ⟨_, rfl, ?_⟩
        exact ⟨fun h => by simpa [sput] using h0 (by simpa [did] using h), fun h => by simpa [sput] using h1 (by simpa [did] using h), fun h => by simpa [sput] using h2 (by simpa [did] using h), fun h => by simpa [sput] using h3 (by simpa [did] using h), fun _ => by simp [sput], fun h => by simpa [sput] using h5 (by simpa [did] using h), fun h => by simpa [sput] using h6 (by simpa [did] using h), fun h => by simpa [sput] using h7 (by simpa [did] using h), fun h => by simpa [sput] using h8 (by simpa [did] using h), fun h => by simpa [sput] using h9 (by simpa [did] using h), fun h => by simpa [sput] using h10 (by simpa [did] using h), fun h => by simpa [sput] using h11 (by simpa [did] using h), fun h => by simpa [sput] using h12 (by simpa [did] using h), fun h => by simpa [sput] using h13 (by simpa [did] using h), fun h => by simpa [sput] using h14 (by simpa [did] using h), fun h => by simpa [sput] using h15 (by simpa [did] using h), fun h => by simpa [sput] using h16 (by simpa [did] using h), fun h => by simpa [sput] using h17 (by simpa [did] using h), fun h => by have := x0 (by simpa [did] using h); simp [did, this], fun _ => by simp [did, hdep], fun h => by have := x2 (by simpa [did] using h); simp [did, this], fun h => by have := x3 (by simpa [did] using h); simp [did, this], fun h => by have := x4 (by simpa [did] using h); simp [did, this], fun h => by have := x5 (by simpa [did] using h); simp [did, this], fun h => by have := x6 (by simpa [did] using h); simp [did, this], fun h => by have := x7 (by simpa [did] using h); simp [did, this], fun h => by have := x8 (by simpa [did] using h); simp [did, this], fun h => by have := x9 (by simpa [did] using h); simp [did, this], fun h => by have := x10 (by simpa [did] using h); simp [did, this], fun h => by have := x11 (by simpa [did] using h); simp [did, this], ⟨fun _ => below_nx hT hb, fun h => by simp [did, hl] at h⟩⟩
    · as_aux_lemma =>
        have hl : d 18 = false := by
          cases h : d 18
          · rfl
          · have := x11 h; simp [hd] at this
        replace hT := hT.1 hl
        have g1 := h1 (by simp [hdep])
        have g4 := h4 (by simp [hdep])
        unfold OpSteps
        simp [go_sem, evS, g1, g4, b2, b3]
        exact ⟨fun h => by simpa [sput] using h0 (by simpa [did] using h), fun h => by simpa [sput] using h1 (by simpa [did] using h), fun h => by simpa [sput] using h2 (by simpa [did] using h), fun h => by simpa [sput] using h3 (by simpa [did] using h), fun h => by simpa [sput] using h4 (by simpa [did] using h), fun _ => by simp [sput], fun h => by simpa [sput] using h6 (by simpa [did] using h), fun h => by simpa [sput] using h7 (by simpa [did] using h), fun h => by simpa [sput] using h8 (by simpa [did] using h), fun h => by simpa [sput] using h9 (by simpa [did] using h), fun h => by simpa [sput] using h10 (by simpa [did] using h), fun h => by simpa [sput] using h11 (by simpa [did] using h), fun h => by simpa [sput] using h12 (by simpa [did] using h), fun h => by simpa [sput] using h13 (by simpa [did] using h), fun h => by simpa [sput] using h14 (by simpa [did] using h), fun h => by simpa [sput] using h15 (by simpa [did] using h), fun h => by simpa [sput] using h16 (by simpa [did] using h), fun h => by simpa [sput] using h17 (by simpa [did] using h), fun h => by have := x0 (by simpa [did] using h); simp [did, this], fun h => by have := x1 (by simpa [did] using h); simp [did, this], fun _ => by have y1 := x0 (by simp [hdep]); have y4 := x1 (by simp [hdep]); simp [did, hdep, y1, y4], fun h => by have := x3 (by simpa [did] using h); simp [did, this], fun h => by have := x4 (by simpa [did] using h); simp [did, this], fun h => by have := x5 (by simpa [did] using h); simp [did, this], fun h => by have := x6 (by simpa [did] using h); simp [did, this], fun h => by have := x7 (by simpa [did] using h); simp [did, this], fun h => by have := x8 (by simpa [did] using h); simp [did, this], fun h => by have := x9 (by simpa [did] using h); simp [did, this], fun h => by have := x10 (by simpa [did] using h); simp [did, this], fun h => by have := x11 (by simpa [did] using h); simp [did, this], ⟨fun _ => hT, fun h => by simp [did, hl] at h⟩⟩
    · as_aux_lemma =>
        have hl : d 18 = false := by
          cases h : d 18
          · rfl
          · have := x11 h; simp [hd] at this
        replace hT := hT.1 hl
        have g5 := h5 (by simp [hdep])
        unfold OpSteps
        have pc := cell_below HCi.out hT
        simp [go_sem, evS, g5, pc]
        exact ⟨fun h => by simpa [sput] using h0 (by simpa [did] using h), fun h => by simpa [sput] using h1 (by simpa [did] using h), fun h => by simpa [sput] using h2 (by simpa [did] using h), fun h => by simpa [sput] using h3 (by simpa [did] using h), fun h => by simpa [sput] using h4 (by simpa [did] using h), fun h => by simpa [sput] using h5 (by simpa [did] using h), fun _ => by simp [sput], fun h => by simpa [sput] using h7 (by simpa [did] using h), fun h => by simpa [sput] using h8 (by simpa [did] using h), fun h => by simpa [sput] using h9 (by simpa [did] using h), fun h => by simpa [sput] using h10 (by simpa [did] using h), fun h => by simpa [sput] using h11 (by simpa [did] using h), fun h => by simpa [sput] using h12 (by simpa [did] using h), fun h => by simpa [sput] using h13 (by simpa [did] using h), fun h => by simpa [sput] using h14 (by simpa [did] using h), fun h => by simpa [sput] using h15 (by simpa [did] using h), fun h => by simpa [sput] using h16 (by simpa [did] using h), fun h => by simpa [sput] using h17 (by simpa [did] using h), fun h => by have := x0 (by simpa [did] using h); simp [did, this], fun h => by have := x1 (by simpa [did] using h); simp [did, this], fun h => by have := x2 (by simpa [did] using h); simp [did, this], fun _ => by have y5 := x2 (by simp [hdep]); simp [did, hdep, y5], fun h => by have := x4 (by simpa [did] using h); simp [did, this], fun h => by have := x5 (by simpa [did] using h); simp [did, this], fun h => by have := x6 (by simpa [did] using h); simp [did, this], fun h => by have := x7 (by simpa [did] using h); simp [did, this], fun h => by have := x8 (by simpa [did] using h); simp [did, this], fun h => by have := x9 (by simpa [did] using h); simp [did, this], fun h => by have := x10 (by simpa [did] using h); simp [did, this], fun h => by have := x11 (by simpa [did] using h); simp [did, this], ⟨fun _ => hT, fun h => by simp [did, hl] at h⟩⟩
    · as_aux_lemma =>
        have hl : d 18 = false := by
          cases h : d 18
          · rfl
          · have := x11 h; simp [hd] at this
        replace hT := hT.1 hl
        unfold OpSteps
        simp [go_sem, evS, f8]
        exact ⟨fun h => by simpa [sput] using h0 (by simpa [did] using h), fun h => by simpa [sput] using h1 (by simpa [did] using h), fun h => by simpa [sput] using h2 (by simpa [did] using h), fun h => by simpa [sput] using h3 (by simpa [did] using h), fun h => by simpa [sput] using h4 (by simpa [did] using h), fun h => by simpa [sput] using h5 (by simpa [did] using h), fun h => by simpa [sput] using h6 (by simpa [did] using h), fun _ => by simp [sput], fun h => by simpa [sput] using h8 (by simpa [did] using h), fun h => by simpa [sput] using h9 (by simpa [did] using h), fun h => by simpa [sput] using h10 (by simpa [did] using h), fun h => by simpa [sput] using h11 (by simpa [did] using h), fun h => by simpa [sput] using h12 (by simpa [did] using h), fun h => by simpa [sput] using h13 (by simpa [did] using h), fun h => by simpa [sput] using h14 (by simpa [did] using h), fun h => by simpa [sput] using h15 (by simpa [did] using h), fun h => by simpa [sput] using h16 (by simpa [did] using h), fun h => by simpa [sput] using h17 (by simpa [did] using h), fun h => by have := x0 (by simpa [did] using h); simp [did, this], fun h => by have := x1 (by simpa [did] using h); simp [did, this], fun h => by have := x2 (by simpa [did] using h); simp [did, this], fun h => by have := x3 (by simpa [did] using h); simp [did, this], fun h => by have := x4 (by simpa [did] using h); simp [did, this], fun h => by have := x5 (by simpa [did] using h); simp [did, this], fun h => by have := x6 (by simpa [did] using h); simp [did, this], fun h => by have := x7 (by simpa [did] using h); simp [did, this], fun h => by have := x8 (by simpa [did] using h); simp [did, this], fun h => by have := x9 (by simpa [did] using h); simp [did, this], fun h => by have := x10 (by simpa [did] using h); simp [did, this], fun h => by have := x11 (by simpa [did] using h); simp [did, this], ⟨fun _ => hT, fun h => by simp [did, hl] at h⟩⟩
    · as_aux_lemma =>
        have hl : d 18 = false := by
          cases h : d 18
          · rfl
          · have := x11 h; simp [hd] at this
        replace hT := hT.1 hl
        unfold OpSteps
        simp [go_sem, evS, f5]
        exact ⟨fun h => by simpa [sput] using h0 (by simpa [did] using h), fun h => by simpa [sput] using h1 (by simpa [did] using h), fun h => by simpa [sput] using h2 (by simpa [did] using h), fun h => by simpa [sput] using h3 (by simpa [did] using h), fun h => by simpa [sput] using h4 (by simpa [did] using h), fun h => by simpa [sput] using h5 (by simpa [did] using h), fun h => by simpa [sput] using h6 (by simpa [did] using h), fun h => by simpa [sput] using h7 (by simpa [did] using h), fun _ => by simp [sput], fun h => by simpa [sput] using h9 (by simpa [did] using h), fun h => by simpa [sput] using h10 (by simpa [did] using h), fun h => by simpa [sput] using h11 (by simpa [did] using h), fun h => by simpa [sput] using h12 (by simpa [did] using h), fun h => by simpa [sput] using h13 (by simpa [did] using h), fun h => by simpa [sput] using h14 (by simpa [did] using h), fun h => by simpa [sput] using h15 (by simpa [did] using h), fun h => by simpa [sput] using h16 (by simpa [did] using h), fun h => by simpa [sput] using h17 (by simpa [did] using h), fun h => by have := x0 (by simpa [did] using h); simp [did, this], fun h => by have := x1 (by simpa [did] using h); simp [did, this], fun h => by have := x2 (by simpa [did] using h); simp [did, this], fun h => by have := x3 (by simpa [did] using h); simp [did, this], fun h => by have := x4 (by simpa [did] using h); simp [did, this], fun h => by have := x5 (by simpa [did] using h); simp [did, this], fun h => by have := x6 (by simpa [did] using h); simp [did, this], fun h => by have := x7 (by simpa [did] using h); simp [did, this], fun h => by have := x8 (by simpa [did] using h); simp [did, this], fun h => by have := x9 (by simpa [did] using h); simp [did, this], fun h => by have := x10 (by simpa [did] using h); simp [did, this], fun h => by have := x11 (by simpa [did] using h); simp [did, this], ⟨fun _ => hT, fun h => by simp [did, hl] at h⟩⟩
    · as_aux_lemma =>
        have hl : d 18 = false := by
          cases h : d 18
          · rfl
          · have := x11 h; simp [hd] at this
        replace hT := hT.1 hl
        have g8 := h8 (by simp [hdep])
        unfold OpSteps
        obtain ⟨p0, p1, p2, p3⟩ := cells4w (HX1.out.below hT HX1.out.lt)
        simp [go_sem, evS, g8, p0, p1, p2, p3]
        exact ⟨fun h => by simpa [sput] using h0 (by simpa [did] using h), fun h => by simpa [sput] using h1 (by simpa [did] using h), fun h => by simpa [sput] using h2 (by simpa [did] using h), fun h => by simpa [sput] using h3 (by simpa [did] using h), fun h => by simpa [sput] using h4 (by simpa [did] using h), fun h => by simpa [sput] using h5 (by simpa [did] using h), fun h => by simpa [sput] using h6 (by simpa [did] using h), fun h => by simpa [sput] using h7 (by simpa [did] using h), fun h => by simpa [sput] using h8 (by simpa [did] using h), fun _ => by simp [sput], fun h => by simpa [sput] using h10 (by simpa [did] using h), fun h => by simpa [sput] using h11 (by simpa [did] using h), fun h => by simpa [sput] using h12 (by simpa [did] using h), fun h => by simpa [sput] using h13 (by simpa [did] using h), fun h => by simpa [sput] using h14 (by simpa [did] using h), fun h => by simpa [sput] using h15 (by simpa [did] using h), fun h => by simpa [sput] using h16 (by simpa [did] using h), fun h => by simpa [sput] using h17 (by simpa [did] using h), fun h => by have := x0 (by simpa [did] using h); simp [did, this], fun h => by have := x1 (by simpa [did] using h); simp [did, this], fun h => by have := x2 (by simpa [did] using h); simp [did, this], fun h => by have := x3 (by simpa [did] using h); simp [did, this], fun _ => by simp [did, hdep], fun h => by have := x5 (by simpa [did] using h); simp [did, this], fun h => by have := x6 (by simpa [did] using h); simp [did, this], fun h => by have := x7 (by simpa [did] using h); simp [did, this], fun h => by have := x8 (by simpa [did] using h); simp [did, this], fun h => by have := x9 (by simpa [did] using h); simp [did, this], fun h => by have := x10 (by simpa [did] using h); simp [did, this], fun h => by have := x11 (by simpa [did] using h); simp [did, this], ⟨fun _ => hT, fun h => by simp [did, hl] at h⟩⟩
    · as_aux_lemma =>
        have hl : d 18 = false := by
          cases h : d 18
          · rfl
          · have := x11 h; simp [hd] at this
        replace hT := hT.1 hl
        unfold OpSteps
        obtain ⟨p0, p1, p2, p3⟩ := cells4w (HX1.out.below hT HX1.out.lt)
        simp [go_sem, evS, f5, p0, p1, p2, p3]
        exact ⟨fun h => by simpa [sput] using h0 (by simpa [did] using h), fun h => by simpa [sput] using h1 (by simpa [did] using h), fun h => by simpa [sput] using h2 (by simpa [did] using h), fun h => by simpa [sput] using h3 (by simpa [did] using h), fun h => by simpa [sput] using h4 (by simpa [did] using h), fun h => by simpa [sput] using h5 (by simpa [did] using h), fun h => by simpa [sput] using h6 (by simpa [did] using h), fun h => by simpa [sput] using h7 (by simpa [did] using h), fun h => by simpa [sput] using h8 (by simpa [did] using h), fun h => by simpa [sput] using h9 (by simpa [did] using h), fun _ => by simp [sput], fun h => by simpa [sput] using h11 (by simpa [did] using h), fun h => by simpa [sput] using h12 (by simpa [did] using h), fun h => by simpa [sput] using h13 (by simpa [did] using h), fun h => by simpa [sput] using h14 (by simpa [did] using h), fun h => by simpa [sput] using h15 (by simpa [did] using h), fun h => by simpa [sput] using h16 (by simpa [did] using h), fun h => by simpa [sput] using h17 (by simpa [did] using h), fun h => by have := x0 (by simpa [did] using h); simp [did, this], fun h => by have := x1 (by simpa [did] using h); simp [did, this], fun h => by have := x2 (by simpa [did] using h); simp [did, this], fun h => by have := x3 (by simpa [did] using h); simp [did, this], fun h => by have := x4 (by simpa [did] using h); simp [did, this], fun h => by have := x5 (by simpa [did] using h); simp [did, this], fun h => by have := x6 (by simpa [did] using h); simp [did, this], fun h => by have := x7 (by simpa [did] using h); simp [did, this], fun h => by have := x8 (by simpa [did] using h); simp [did, this], fun h => by have := x9 (by simpa [did] using h); simp [did, this], fun h => by have := x10 (by simpa [did] using h); simp [did, this], fun h => by have := x11 (by simpa [did] using h); simp [did, this], ⟨fun _ => hT, fun h => by simp [did, hl] at h⟩⟩
    · as_aux_lemma =>
        have hl : d 18 = false := by
          cases h : d 18
          · rfl
          · have := x11 h; simp [hd] at this
        replace hT := hT.1 hl
        unfold OpSteps
        simp [go_sem, evS, f3]
        exact ⟨fun h => by simpa [sput] using h0 (by simpa [did] using h), fun h => by simpa [sput] using h1 (by simpa [did] using h), fun h => by simpa [sput] using h2 (by simpa [did] using h), fun h => by simpa [sput] using h3 (by simpa [did] using h), fun h => by simpa [sput] using h4 (by simpa [did] using h), fun h => by simpa [sput] using h5 (by simpa [did] using h), fun h => by simpa [sput] using h6 (by simpa [did] using h), fun h => by simpa [sput] using h7 (by simpa [did] using h), fun h => by simpa [sput] using h8 (by simpa [did] using h), fun h => by simpa [sput] using h9 (by simpa [did] using h), fun h => by simpa [sput] using h10 (by simpa [did] using h), fun _ => by simp [sput], fun h => by simpa [sput] using h12 (by simpa [did] using h), fun h => by simpa [sput] using h13 (by simpa [did] using h), fun h => by simpa [sput] using h14 (by simpa [did] using h), fun h => by simpa [sput] using h15 (by simpa [did] using h), fun h => by simpa [sput] using h16 (by simpa [did] using h), fun h => by simpa [sput] using h17 (by simpa [did] using h), fun h => by have := x0 (by simpa [did] using h); simp [did, this], fun h => by have := x1 (by simpa [did] using h); simp [did, this], fun h => by have := x2 (by simpa [did] using h); simp [did, this], fun h => by have := x3 (by simpa [did] using h); simp [did, this], fun h => by have := x4 (by simpa [did] using h); simp [did, this], fun h => by have := x5 (by simpa [did] using h); simp [did, this], fun h => by have := x6 (by simpa [did] using h); simp [did, this], fun h => by have := x7 (by simpa [did] using h); simp [did, this], fun h => by have := x8 (by simpa [did] using h); simp [did, this], fun h => by have := x9 (by simpa [did] using h); simp [did, this], fun h => by have := x10 (by simpa [did] using h); simp [did, this], fun h => by have := x11 (by simpa [did] using h); simp [did, this], ⟨fun _ => hT, fun h => by simp [did, hl] at h⟩⟩
    · as_aux_lemma =>
        have hl : d 18 = false := by
          cases h : d 18
          · rfl
          · have := x11 h; simp [hd] at this
        replace hT := hT.1 hl
        have g10 := h10 (by simp [hdep])
        have g11 := h11 (by simp [hdep])
        unfold OpSteps
        simp [go_sem, evS, g10, g11]
        refine (HPk.out W).mono ?_
        rintro e W' ⟨rfl, hb⟩
        refine ⟨_, rfl, ?_⟩
        exact ⟨fun h => by simpa [sput] using h0 (by simpa [did] using h), fun h => by simpa [sput] using h1 (by simpa [did] using h), fun h => by simpa [sput] using h2 (by simpa [did] using h), fun h => by simpa [sput] using h3 (by simpa [did] using h), fun h => by simpa [sput] using h4 (by simpa [did] using h), fun h => by simpa [sput] using h5 (by simpa [did] using h), fun h => by simpa [sput] using h6 (by simpa [did] using h), fun h => by simpa [sput] using h7 (by simpa [did] using h), fun h => by simpa [sput] using h8 (by simpa [did] using h), fun h => by simpa [sput] using h9 (by simpa [did] using h), fun h => by simpa [sput] using h10 (by simpa [did] using h), fun h => by simpa [sput] using h11 (by simpa [did] using h), fun _ => by simp [sput], fun h => by simpa [sput] using h13 (by simpa [did] using h), fun h => by simpa [sput] using h14 (by simpa [did] using h), fun h => by simpa [sput] using h15 (by simpa [did] using h), fun h => by simpa [sput] using h16 (by simpa [did] using h), fun h => by simpa [sput] using h17 (by simpa [did] using h), fun h => by have := x0 (by simpa [did] using h); simp [did, this], fun h => by have := x1 (by simpa [did] using h); simp [did, this], fun h => by have := x2 (by simpa [did] using h); simp [did, this], fun h => by have := x3 (by simpa [did] using h); simp [did, this], fun h => by have := x4 (by simpa [did] using h); simp [did, this], fun _ => by simp [did, hdep], fun h => by have := x6 (by simpa [did] using h); simp [did, this], fun h => by have := x7 (by simpa [did] using h); simp [did, this], fun h => by have := x8 (by simpa [did] using h); simp [did, this], fun h => by have := x9 (by simpa [did] using h); simp [did, this], fun h => by have := x10 (by simpa [did] using h); simp [did, this], fun h => by have := x11 (by simpa [did] using h); simp [did, this], ⟨fun _ => below_nx hT hb, fun h => by simp [did, hl] at h⟩⟩
    · as_aux_lemma =>
        have hl : d 18 = false := by
          cases h : d 18
          · rfl
          · have := x11 h; simp [hd] at this
        replace hT := hT.1 hl
        have g9 := h9 (by simp [hdep])
        have g12 := h12 (by simp [hdep])
        unfold OpSteps
        simp [go_sem, evS, g9, g12, b2, b3]
        exact ⟨fun h => by simpa [sput] using h0 (by simpa [did] using h), fun h => by simpa [sput] using h1 (by simpa [did] using h), fun h => by simpa [sput] using h2 (by simpa [did] using h), fun h => by simpa [sput] using h3 (by simpa [did] using h), fun h => by simpa [sput] using h4 (by simpa [did] using h), fun h => by simpa [sput] using h5 (by simpa [did] using h), fun h => by simpa [sput] using h6 (by simpa [did] using h), fun h => by simpa [sput] using h7 (by simpa [did] using h), fun h => by simpa [sput] using h8 (by simpa [did] using h), fun h => by simpa [sput] using h9 (by simpa [did] using h), fun h => by simpa [sput] using h10 (by simpa [did] using h), fun h => by simpa [sput] using h11 (by simpa [did] using h), fun h => by simpa [sput] using h12 (by simpa [did] using h), fun _ => by simp [sput], fun h => by simpa [sput] using h14 (by simpa [did] using h), fun h => by simpa [sput] using h15 (by simpa [did] using h), fun h => by simpa [sput] using h16 (by simpa [did] using h), fun h => by simpa [sput] using h17 (by simpa [did] using h), fun h => by have := x0 (by simpa [did] using h); simp [did, this], fun h => by have := x1 (by simpa [did] using h); simp [did, this], fun h => by have := x2 (by simpa [did] using h); simp [did, this], fun h => by have := x3 (by simpa [did] using h); simp [did, this], fun h => by have := x4 (by simpa [did] using h); simp [did, this], fun h => by have := x5 (by simpa [did] using h); simp [did, this], fun _ => by have y9 := x4 (by simp [hdep]); have y12 := x5 (by simp [hdep]); simp [did, hdep, y9, y12], fun h => by have := x7 (by simpa [did] using h); simp [did, this], fun h => by have := x8 (by simpa [did] using h); simp [did, this], fun h => by have := x9 (by simpa [did] using h); simp [did, this], fun h => by have := x10 (by simpa [did] using h); simp [did, this], fun h => by have := x11 (by simpa [did] using h); simp [did, this], ⟨fun _ => hT, fun h => by simp [did, hl] at h⟩⟩
    · as_aux_lemma =>
        have hl : d 18 = false := by
          cases h : d 18
          · rfl
          · have := x11 h; simp [hd] at this
        replace hT := hT.1 hl
        have g13 := h13 (by simp [hdep])
        unfold OpSteps
        have pc := cell_below HCk.out hT
        simp [go_sem, evS, g13, pc]
        exact ⟨fun h => by simpa [sput] using h0 (by simpa [did] using h), fun h => by simpa [sput] using h1 (by simpa [did] using h), fun h => by simpa [sput] using h2 (by simpa [did] using h), fun h => by simpa [sput] using h3 (by simpa [did] using h), fun h => by simpa [sput] using h4 (by simpa [did] using h), fun h => by simpa [sput] using h5 (by simpa [did] using h), fun h => by simpa [sput] using h6 (by simpa [did] using h), fun h => by simpa [sput] using h7 (by simpa [did] using h), fun h => by simpa [sput] using h8 (by simpa [did] using h), fun h => by simpa [sput] using h9 (by simpa [did] using h), fun h => by simpa [sput] using h10 (by simpa [did] using h), fun h => by simpa [sput] using h11 (by simpa [did] using h), fun h => by simpa [sput] using h12 (by simpa [did] using h), fun h => by simpa [sput] using h13 (by simpa [did] using h), fun _ => by simp [sput], fun h => by simpa [sput] using h15 (by simpa [did] using h), fun h => by simpa [sput] using h16 (by simpa [did] using h), fun h => by simpa [sput] using h17 (by simpa [did] using h), fun h => by have := x0 (by simpa [did] using h); simp [did, this], fun h => by have := x1 (by simpa [did] using h); simp [did, this], fun h => by have := x2 (by simpa [did] using h); simp [did, this], fun h => by have := x3 (by simpa [did] using h); simp [did, this], fun h => by have := x4 (by simpa [did] using h); simp [did, this], fun h => by have := x5 (by simpa [did] using h); simp [did, this], fun h => by have := x6 (by simpa [did] using h); simp [did, this], fun _ => by have y13 := x6 (by simp [hdep]); simp [did, hdep, y13], fun h => by have := x8 (by simpa [did] using h); simp [did, this], fun h => by have := x9 (by simpa [did] using h); simp [did, this], fun h => by have := x10 (by simpa [did] using h); simp [did, this], fun h => by have := x11 (by simpa [did] using h); simp [did, this], ⟨fun _ => hT, fun h => by simp [did, hl] at h⟩⟩
    · as_aux_lemma =>
        have hl : d 18 = false := by
          cases h : d 18
          · rfl
          · have := x11 h; simp [hd] at this
        replace hT := hT.1 hl
        have g7 := h7 (by simp [hdep])
        have g14 := h14 (by simp [hdep])
        unfold OpSteps
        simp [go_sem, evS, g7, g14]
        exact ⟨fun h => by simpa [sput] using h0 (by simpa [did] using h), fun h => by simpa [sput] using h1 (by simpa [did] using h), fun h => by simpa [sput] using h2 (by simpa [did] using h), fun h => by simpa [sput] using h3 (by simpa [did] using h), fun h => by simpa [sput] using h4 (by simpa [did] using h), fun h => by simpa [sput] using h5 (by simpa [did] using h), fun h => by simpa [sput] using h6 (by simpa [did] using h), fun h => by simpa [sput] using h7 (by simpa [did] using h), fun h => by simpa [sput] using h8 (by simpa [did] using h), fun h => by simpa [sput] using h9 (by simpa [did] using h), fun h => by simpa [sput] using h10 (by simpa [did] using h), fun h => by simpa [sput] using h11 (by simpa [did] using h), fun h => by simpa [sput] using h12 (by simpa [did] using h), fun h => by simpa [sput] using h13 (by simpa [did] using h), fun h => by simpa [sput] using h14 (by simpa [did] using h), fun _ => ⟨fres .mul W v yk, by simp [sput], fres_comes _ _ _ _⟩, fun h => by simpa [sput] using h16 (by simpa [did] using h), fun h => by simpa [sput] using h17 (by simpa [did] using h), fun h => by have := x0 (by simpa [did] using h); simp [did, this], fun h => by have := x1 (by simpa [did] using h); simp [did, this], fun h => by have := x2 (by simpa [did] using h); simp [did, this], fun h => by have := x3 (by simpa [did] using h); simp [did, this], fun h => by have := x4 (by simpa [did] using h); simp [did, this], fun h => by have := x5 (by simpa [did] using h); simp [did, this], fun h => by have := x6 (by simpa [did] using h); simp [did, this], fun h => by have := x7 (by simpa [did] using h); simp [did, this], fun _ => by have y14 := x7 (by simp [hdep]); simp [did, hdep, y14], fun h => by have := x9 (by simpa [did] using h); simp [did, this], fun h => by have := x10 (by simpa [did] using h); simp [did, this], fun h => by have := x11 (by simpa [did] using h); simp [did, this], ⟨fun _ => below_drewN hT _, fun h => by simp [did, hl] at h⟩⟩
    · as_aux_lemma =>
        have hl : d 18 = false := by
          cases h : d 18
          · rfl
          · have := x11 h; simp [hd] at this
        replace hT := hT.1 hl
        have g6 := h6 (by simp [hdep])
        have g15 := h15 (by simp [hdep])
        unfold OpSteps
        obtain ⟨p, gp, hp⟩ := g15
        simp [go_sem, evS, g6, gp]
        exact ⟨fun h => by simpa [sput] using h0 (by simpa [did] using h), fun h => by simpa [sput] using h1 (by simpa [did] using h), fun h => by simpa [sput] using h2 (by simpa [did] using h), fun h => by simpa [sput] using h3 (by simpa [did] using h), fun h => by simpa [sput] using h4 (by simpa [did] using h), fun h => by simpa [sput] using h5 (by simpa [did] using h), fun h => by simpa [sput] using h6 (by simpa [did] using h), fun h => by simpa [sput] using h7 (by simpa [did] using h), fun h => by simpa [sput] using h8 (by simpa [did] using h), fun h => by simpa [sput] using h9 (by simpa [did] using h), fun h => by simpa [sput] using h10 (by simpa [did] using h), fun h => by simpa [sput] using h11 (by simpa [did] using h), fun h => by simpa [sput] using h12 (by simpa [did] using h), fun h => by simpa [sput] using h13 (by simpa [did] using h), fun h => by simpa [sput] using h14 (by simpa [did] using h), fun h => by simpa [sput] using h15 (by simpa [did] using h), fun _ => ⟨fres .sub W yi p, by simp [sput], p, hp, fres_comes _ _ _ _⟩, fun h => by simpa [sput] using h17 (by simpa [did] using h), fun h => by have := x0 (by simpa [did] using h); simp [did, this], fun h => by have := x1 (by simpa [did] using h); simp [did, this], fun h => by have := x2 (by simpa [did] using h); simp [did, this], fun h => by have := x3 (by simpa [did] using h); simp [did, this], fun h => by have := x4 (by simpa [did] using h); simp [did, this], fun h => by have := x5 (by simpa [did] using h); simp [did, this], fun h => by have := x6 (by simpa [did] using h); simp [did, this], fun h => by have := x7 (by simpa [did] using h); simp [did, this], fun h => by have := x8 (by simpa [did] using h); simp [did, this], fun _ => by have y6 := x3 (by simp [hdep]); have y15 := x8 (by simp [hdep]); simp [did, hdep, y6, y15], fun h => by have := x10 (by simpa [did] using h); simp [did, this], fun h => by have := x11 (by simpa [did] using h); simp [did, this], ⟨fun _ => below_drewN hT _, fun h => by simp [did, hl] at h⟩⟩
    · as_aux_lemma =>
        have hl : d 18 = false := by
          cases h : d 18
          · rfl
          · have := x11 h; simp [hd] at this
        replace hT := hT.1 hl
        have g1 := h1 (by simp [hdep])
        have g4 := h4 (by simp [hdep])
        unfold OpSteps
        simp [go_sem, evS, g1, g4, b2, b3]
        exact ⟨fun h => by simpa [sput] using h0 (by simpa [did] using h), fun h => by simpa [sput] using h1 (by simpa [did] using h), fun h => by simpa [sput] using h2 (by simpa [did] using h), fun h => by simpa [sput] using h3 (by simpa [did] using h), fun h => by simpa [sput] using h4 (by simpa [did] using h), fun h => by simpa [sput] using h5 (by simpa [did] using h), fun h => by simpa [sput] using h6 (by simpa [did] using h), fun h => by simpa [sput] using h7 (by simpa [did] using h), fun h => by simpa [sput] using h8 (by simpa [did] using h), fun h => by simpa [sput] using h9 (by simpa [did] using h), fun h => by simpa [sput] using h10 (by simpa [did] using h), fun h => by simpa [sput] using h11 (by simpa [did] using h), fun h => by simpa [sput] using h12 (by simpa [did] using h), fun h => by simpa [sput] using h13 (by simpa [did] using h), fun h => by simpa [sput] using h14 (by simpa [did] using h), fun h => by simpa [sput] using h15 (by simpa [did] using h), fun h => by simpa [sput] using h16 (by simpa [did] using h), fun _ => by simp [sput], fun h => by have := x0 (by simpa [did] using h); simp [did, this], fun h => by have := x1 (by simpa [did] using h); simp [did, this], fun h => by have := x2 (by simpa [did] using h); simp [did, this], fun h => by have := x3 (by simpa [did] using h); simp [did, this], fun h => by have := x4 (by simpa [did] using h); simp [did, this], fun h => by have := x5 (by simpa [did] using h); simp [did, this], fun h => by have := x6 (by simpa [did] using h); simp [did, this], fun h => by have := x7 (by simpa [did] using h); simp [did, this], fun h => by have := x8 (by simpa [did] using h); simp [did, this], fun h => by have := x9 (by simpa [did] using h); simp [did, this], fun _ => by have y1 := x0 (by simp [hdep]); have y4 := x1 (by simp [hdep]); simp [did, hdep, y1, y4], fun h => by have := x11 (by simpa [did] using h); simp [did, this], ⟨fun _ => hT, fun h => by simp [did, hl] at h⟩⟩
    · as_aux_lemma =>
        have g17 := h17 (by simp [hdep])
        have g16 := h16 (by simp [hdep])
        unfold OpSteps
        replace hT := hT.1 hd
        obtain ⟨r, gr, hr⟩ := g16
        have hfz := frz_belowr HFz.out hlt0 hT
        have hcl := cell_below HCi.out hT
        simp [go_sem, evS, g17, gr, hfz, hcl]
        exact ⟨fun h => by simpa [sput] using h0 (by simpa [did] using h), fun h => by simpa [sput] using h1 (by simpa [did] using h), fun h => by simpa [sput] using h2 (by simpa [did] using h), fun h => by simpa [sput] using h3 (by simpa [did] using h), fun h => by simpa [sput] using h4 (by simpa [did] using h), fun h => by simpa [sput] using h5 (by simpa [did] using h), fun h => by simpa [sput] using h6 (by simpa [did] using h), fun h => by simpa [sput] using h7 (by simpa [did] using h), fun h => by simpa [sput] using h8 (by simpa [did] using h), fun h => by simpa [sput] using h9 (by simpa [did] using h), fun h => by simpa [sput] using h10 (by simpa [did] using h), fun h => by simpa [sput] using h11 (by simpa [did] using h), fun h => by simpa [sput] using h12 (by simpa [did] using h), fun h => by simpa [sput] using h13 (by simpa [did] using h), fun h => by simpa [sput] using h14 (by simpa [did] using h), fun h => by simpa [sput] using h15 (by simpa [did] using h), fun h => by simpa [sput] using h16 (by simpa [did] using h), fun h => by simpa [sput] using h17 (by simpa [did] using h), fun h => by have := x0 (by simpa [did] using h); simp [did, this], fun h => by have := x1 (by simpa [did] using h); simp [did, this], fun h => by have := x2 (by simpa [did] using h); simp [did, this], fun h => by have := x3 (by simpa [did] using h); simp [did, this], fun h => by have := x4 (by simpa [did] using h); simp [did, this], fun h => by have := x5 (by simpa [did] using h); simp [did, this], fun h => by have := x6 (by simpa [did] using h); simp [did, this], fun h => by have := x7 (by simpa [did] using h); simp [did, this], fun h => by have := x8 (by simpa [did] using h); simp [did, this], fun h => by have := x9 (by simpa [did] using h); simp [did, this], fun h => by have := x10 (by simpa [did] using h); simp [did, this], fun _ => by have y16 := x9 (by simp [hdep]); have y17 := x10 (by simp [hdep]); simp [did, hdep, y16, y17], ⟨fun h => by simp [did] at h, fun _ => ⟨W, r, hT, rfl, hr⟩⟩⟩
  intro d s W hJ hd
  obtain ⟨h0, h1, h2, h3, h4, h5, h6, h7, h8, h9, h10, h11, h12, h13, h14, h15, h16, h17, x0, x1, x2, x3, x4, x5, x6, x7, x8, x9, x10, x11, hT⟩ := hJ
  obtain ⟨W', r, hbw, rfl, hr⟩ := hT.2 (hd 18 (by decide))
  have HR := Lib.hid hr
  have HBw := Lib.hid hbw
  clear h0 h1 h2 h3 h4 h5 h6 h7 h8 h9 h10 h11 h12 h13 h14 h15 h16 h17 x0 x1 x2 x3 x4 x5 x6 x7 x8 x9 x10 x11 hT hd hbw hr
  simp [setAll]
  generalize s 17 = s17
  generalize s 18 = s18
  generalize s 19 = s19
  generalize s 20 = s20
  generalize s 21 = s21
  generalize s 22 = s22
  generalize s 23 = s23
  generalize s 24 = s24
  generalize s 25 = s25
  generalize s 26 = s26
  generalize s 27 = s27
  generalize s 28 = s28
  generalize s 29 = s29
  generalize s 30 = s30
  generalize s 31 = s31
  generalize s 32 = s32
  generalize s 33 = s33
  generalize s 34 = s34
  go_wp2_with fail
  go_end0
  exact ⟨rfl, W', r, below_nx HB1.out HBw.out, rfl, HR.out⟩

set_option maxRecDepth 100000 in
set_option maxHeartbeats 2000000 in
theorem trdivide_any (kd : Nat) (hkd : kd = 1 ∨ kd = 2 ∨ kd = 3 ∨ kd = 4) (A : Option Addr) (n c o R L : Nat) (f : Nat → Nat → Nat) (i : Nat) (ly : List Nat) (gx nx cx ox K ix : Nat) (w : World) (hM : MxC w A o R L f) (hn : n < 1048576) (hLI : I64 L) (hRb : R < 1048576) (hL1 : 1 ≤ L) (hRL : R ≤ L) (hmr : R = 0 ∨ R = 0 ∨ o + (R - 1) * L + (R - 1) < n) (hi : i < R) (hX : Own w gx ly) (hly : ly.length = nx) (hnx : nx < 1048576) (hPi : ox + i * ix < nx) :
    Calls Try.prog 63 #[tri (kd : Int) A n c o R R L, vec (some ⟨gx, 0, none⟩) nx cx ox K ix, .int .i64 i] w fun e w' => e = .returned (.tuple #[]) ∧ StoredR gx (ox + i * ix) (fun r => Comes .quo (ly.getD (ox + i * ix) 0) (trV kd f i i) r) w w' := by
  have HN := Lib.hid (fun W (hb : Below w.heap.size w W) => trnum_any kd hkd A n c o R L f i i W (hM.below hb) hn hLI hRb hL1 hRL hmr hi hi)
  have HPi := Lib.hid (fun W => trplace_any (some ⟨gx, 0, none⟩) nx cx ox K ix i W (by omega))
  have hli : ox + i * ix < ly.length := by omega
  have HCi0 := Lib.hid (hX.get _ hli)
  have HFz0 := Lib.hid (hX.frozen (ox + i * ix))
  have HXl := Lib.hid hX.lt
  rw [← getD_of_lt hli] at HCi0
  obtain ⟨v, hv⟩ : ∃ v, trV kd f i i = v := ⟨_, rfl⟩
  rw [hv] at HN ⊢
  obtain ⟨yi, hyi⟩ : ∃ y, ly.getD (ox + i * ix) 0 = y := ⟨_, rfl⟩
  rw [hyi] at HCi0 ⊢
  obtain ⟨P, hP⟩ : ∃ P, ox + i * ix = P := ⟨_, rfl⟩
  rw [hP] at HCi0 HFz0 HPi hPi ⊢
  have b2 := hPi
  clear hv hyi hP hli hkd hM hn hLI hRb hL1 hRL hmr hi hX hly hnx hPi
  unfold tri vec at *
  go_enter Try.func63, Try.ntmps63
  have HX0 := Lib.hid (Blk.new_ (w.alloc (.cells #[.int .i64 (kd : Int), .slice A n c, .int .i64 o, .int .i64 R, .int .i64 R, .int .i64 L] 80)) 66 #[.slice (some ⟨gx, 0, none⟩) nx cx, .int .i64 ox, .int .i64 K, .int .i64 ix] (w.heap.size + 1) (by simp))
  have HZ0 := Lib.hid ((Blk.new w 80 #[.int .i64 (kd : Int), .slice A n c, .int .i64 o, .int .i64 R, .int .i64 R, .int .i64 L]).alloc (.cells #[.slice (some ⟨gx, 0, none⟩) nx cx, .int .i64 ox, .int .i64 K, .int .i64 ix] 66))
  have HB0 := Lib.hid (((Below.refl w.heap.size w).alloc (Nat.le_refl _) (.cells #[.int .i64 (kd : Int), .slice A n c, .int .i64 o, .int .i64 R, .int .i64 R, .int .i64 L] 80)).alloc (by simp) (.cells #[.slice (some ⟨gx, 0, none⟩) nx cx, .int .i64 ox, .int .i64 K, .int .i64 ix] 66))
  obtain ⟨z0, z1, z2, z3, z4, z5⟩ := cells6 HZ0.out
  obtain ⟨x0, x1, x2, x3⟩ := cells4w HX0.out
  go_wp2_with fail
  refine (HN.out _ HB0.out).mono ?_
  rintro e w1 ⟨rfl, hb⟩
  have HX1 := Lib.hid (HX0.out.nxt hb)
  have HB1 := Lib.hid (below_nx HB0.out hb)
  have HCi := Lib.hid (cell_below HCi0.out HB1.out)
  have HFz := Lib.hid (frz_belowr HFz0.out HXl.out HB1.out)
  have hlt0 : gx < w1.heap.size := block_lt HCi.out
  clear hb z0 z1 z2 z3 z4 z5 x0 x1 x2 x3
  go_wp2_with fail
  refine wp_region_inv [15, 16, 17, 18, 19, 20, 21, 22, 23, 24] (fun d s W => (d 0 = true → s 15 = .pointer (some ⟨w.heap.size + 1, 0, none⟩)) ∧ (d 1 = true → s 16 = .slice (some ⟨gx, 0, none⟩) nx cx) ∧ (d 2 = true → s 17 = .agg #[.slice (some ⟨gx, 0, none⟩) nx cx, .int .i64 (ox : Int), .int .i64 (K : Int), .int .i64 (ix : Int)]) ∧ (d 3 = true → s 18 = .int .i64 (i : Int)) ∧ (d 4 = true → s 19 = .int .i64 (P : Int)) ∧ (d 5 = true → s 20 = .pointer (some ⟨gx, P, none⟩)) ∧ (d 6 = true → s 21 = .float .f64 yi) ∧ (d 7 = true → s 22 = .float .f64 v) ∧ (d 8 = true → ∃ r, s 23 = .float .f64 r ∧ Comes .quo yi v r) ∧ (d 9 = true → s 24 = .pointer (some ⟨gx, P, none⟩)) ∧ (d 1 = true → d 0 = true) ∧ (d 4 = true → d 2 = true ∧ d 3 = true) ∧ (d 5 = true → d 0 = true ∧ d 1 = true ∧ d 2 = true ∧ d 3 = true ∧ d 4 = true) ∧ (d 6 = true → d 0 = true ∧ d 1 = true ∧ d 2 = true ∧ d 3 = true ∧ d 4 = true ∧ d 5 = true) ∧ (d 8 = true → d 0 = true ∧ d 1 = true ∧ d 2 = true ∧ d 3 = true ∧ d 4 = true ∧ d 5 = true ∧ d 6 = true ∧ d 7 = true) ∧ (d 9 = true → d 0 = true ∧ d 1 = true ∧ d 2 = true ∧ d 3 = true ∧ d 4 = true) ∧ (d 10 = true → d 0 = true ∧ d 1 = true ∧ d 2 = true ∧ d 3 = true ∧ d 4 = true ∧ d 5 = true ∧ d 6 = true ∧ d 7 = true ∧ d 8 = true ∧ d 9 = true) ∧ ((d 10 = false → Below w1.heap.size w1 W) ∧ (d 10 = true → StoredR gx P (fun r => Comes .quo yi v r) w1 W)))
    rfl (by kernel_rfl) ?_ ?_ ?_
  · exact ⟨by simp, by simp, by simp, by simp, by simp, by simp, by simp, by simp, by simp, by simp, by simp, by simp, by simp, by simp, by simp, by simp, by simp, ⟨fun _ => (Below.refl _ _).drew, fun h => by simp at h⟩⟩
  · refine ⟨?_, ?_, ?_, ?_, ?_, ?_, ?_, ?_, ?_, ?_, ?_, trivial⟩
    all_goals
      intro d s W hJ hfr hd hdep
      simp only [List.mem_cons, forall_eq_or_imp, List.not_mem_nil, false_implies, implies_true, and_true, Region.binds] at hdep
      have f2 := hfr 2 (by decide)
      have f4 := hfr 4 (by decide)
      have f6 := hfr 6 (by decide)
      simp at f2 f4 f6 hdep
      obtain ⟨h0, h1, h2, h3, h4, h5, h6, h7, h8, h9, x0, x1, x2, x3, x4, x5, x6, hT⟩ := hJ
    · as_aux_lemma =>
        have hl : d 10 = false := by
          cases h : d 10
          · rfl
          · have := x6 h; simp [hd] at this
        replace hT := hT.1 hl
        unfold OpSteps
        simp [go_sem, evS, f4]
        exact ⟨fun _ => by simp [sput], fun h => by simpa [sput] using h1 (by simpa [did] using h), fun h => by simpa [sput] using h2 (by simpa [did] using h), fun h => by simpa [sput] using h3 (by simpa [did] using h), fun h => by simpa [sput] using h4 (by simpa [did] using h), fun h => by simpa [sput] using h5 (by simpa [did] using h), fun h => by simpa [sput] using h6 (by simpa [did] using h), fun h => by simpa [sput] using h7 (by simpa [did] using h), fun h => by simpa [sput] using h8 (by simpa [did] using h), fun h => by simpa [sput] using h9 (by simpa [did] using h), fun h => by have := x0 (by simpa [did] using h); simp [did, this], fun h => by have := x1 (by simpa [did] using h); simp [did, this], fun h => by have := x2 (by simpa [did] using h); simp [did, this], fun h => by have := x3 (by simpa [did] using h); simp [did, this], fun h => by have := x4 (by simpa [did] using h); simp [did, this], fun h => by have := x5 (by simpa [did] using h); simp [did, this], fun h => by have := x6 (by simpa [did] using h); simp [did, this], ⟨fun _ => hT, fun h => by simp [did, hl] at h⟩⟩
    · as_aux_lemma =>
        have hl : d 10 = false := by
          cases h : d 10
          · rfl
          · have := x6 h; simp [hd] at this
        replace hT := hT.1 hl
        have g0 := h0 (by simp [hdep])
        unfold OpSteps
        obtain ⟨p0, p1, p2, p3⟩ := cells4w (HX1.out.below hT HX1.out.lt)
        simp [go_sem, evS, g0, p0, p1, p2, p3]
        exact ⟨fun h => by simpa [sput] using h0 (by simpa [did] using h), fun _ => by simp [sput], fun h => by simpa [sput] using h2 (by simpa [did] using h), fun h => by simpa [sput] using h3 (by simpa [did] using h), fun h => by simpa [sput] using h4 (by simpa [did] using h), fun h => by simpa [sput] using h5 (by simpa [did] using h), fun h => by simpa [sput] using h6 (by simpa [did] using h), fun h => by simpa [sput] using h7 (by simpa [did] using h), fun h => by simpa [sput] using h8 (by simpa [did] using h), fun h => by simpa [sput] using h9 (by simpa [did] using h), fun _ => by simp [did, hdep], fun h => by have := x1 (by simpa [did] using h); simp [did, this], fun h => by have := x2 (by simpa [did] using h); simp [did, this], fun h => by have := x3 (by simpa [did] using h); simp [did, this], fun h => by have := x4 (by simpa [did] using h); simp [did, this], fun h => by have := x5 (by simpa [did] using h); simp [did, this], fun h => by have := x6 (by simpa [did] using h); simp [did, this], ⟨fun _ => hT, fun h => by simp [did, hl] at h⟩⟩
    · as_aux_lemma =>
        have hl : d 10 = false := by
          cases h : d 10
          · rfl
          · have := x6 h; simp [hd] at this
        replace hT := hT.1 hl
        unfold OpSteps
        obtain ⟨p0, p1, p2, p3⟩ := cells4w (HX1.out.below hT HX1.out.lt)
        simp [go_sem, evS, f4, p0, p1, p2, p3]
        exact ⟨fun h => by simpa [sput] using h0 (by simpa [did] using h), fun h => by simpa [sput] using h1 (by simpa [did] using h), fun _ => by simp [sput], fun h => by simpa [sput] using h3 (by simpa [did] using h), fun h => by simpa [sput] using h4 (by simpa [did] using h), fun h => by simpa [sput] using h5 (by simpa [did] using h), fun h => by simpa [sput] using h6 (by simpa [did] using h), fun h => by simpa [sput] using h7 (by simpa [did] using h), fun h => by simpa [sput] using h8 (by simpa [did] using h), fun h => by simpa [sput] using h9 (by simpa [did] using h), fun h => by have := x0 (by simpa [did] using h); simp [did, this], fun h => by have := x1 (by simpa [did] using h); simp [did, this], fun h => by have := x2 (by simpa [did] using h); simp [did, this], fun h => by have := x3 (by simpa [did] using h); simp [did, this], fun h => by have := x4 (by simpa [did] using h); simp [did, this], fun h => by have := x5 (by simpa [did] using h); simp [did, this], fun h => by have := x6 (by simpa [did] using h); simp [did, this], ⟨fun _ => hT, fun h => by simp [did, hl] at h⟩⟩
    · as_aux_lemma =>
        have hl : d 10 = false := by
          cases h : d 10
          · rfl
          · have := x6 h; simp [hd] at this
        replace hT := hT.1 hl
        unfold OpSteps
        simp [go_sem, evS, f2]
        exact ⟨fun h => by simpa [sput] using h0 (by simpa [did] using h), fun h => by simpa [sput] using h1 (by simpa [did] using h), fun h => by simpa [sput] using h2 (by simpa [did] using h), fun _ => by simp [sput], fun h => by simpa [sput] using h4 (by simpa [did] using h), fun h => by simpa [sput] using h5 (by simpa [did] using h), fun h => by simpa [sput] using h6 (by simpa [did] using h), fun h => by simpa [sput] using h7 (by simpa [did] using h), fun h => by simpa [sput] using h8 (by simpa [did] using h), fun h => by simpa [sput] using h9 (by simpa [did] using h), fun h => by have := x0 (by simpa [did] using h); simp [did, this], fun h => by have := x1 (by simpa [did] using h); simp [did, this], fun h => by have := x2 (by simpa [did] using h); simp [did, this], fun h => by have := x3 (by simpa [did] using h); simp [did, this], fun h => by have := x4 (by simpa [did] using h); simp [did, this], fun h => by have := x5 (by simpa [did] using h); simp [did, this], fun h => by have := x6 (by simpa [did] using h); simp [did, this], ⟨fun _ => hT, fun h => by simp [did, hl] at h⟩⟩
    · as_aux_lemma =>
        have hl : d 10 = false := by
          cases h : d 10
          · rfl
          · have := x6 h; simp [hd] at this
        replace hT := hT.1 hl
        have g2 := h2 (by simp [hdep])
        have g3 := h3 (by simp [hdep])
        unfold OpSteps
        simp [go_sem, evS, g2, g3]
        refine (HPi.out W).mono ?_
        rintro e W' ⟨rfl, hb⟩
        refine ⟨_, rfl, ?_⟩
        exact ⟨fun h => by simpa [sput] using h0 (by simpa [did] using h), fun h => by simpa [sput] using h1 (by simpa [did] using h), fun h => by simpa [sput] using h2 (by simpa [did] using h), fun h => by simpa [sput] using h3 (by simpa [did] using h), fun _ => by simp [sput], fun h => by simpa [sput] using h5 (by simpa [did] using h), fun h => by simpa [sput] using h6 (by simpa [did] using h), fun h => by simpa [sput] using h7 (by simpa [did] using h), fun h => by simpa [sput] using h8 (by simpa [did] using h), fun h => by simpa [sput] using h9 (by simpa [did] using h), fun h => by have := x0 (by simpa [did] using h); simp [did, this], fun _ => by simp [did, hdep], fun h => by have := x2 (by simpa [did] using h); simp [did, this], fun h => by have := x3 (by simpa [did] using h); simp [did, this], fun h => by have := x4 (by simpa [did] using h); simp [did, this], fun h => by have := x5 (by simpa [did] using h); simp [did, this], fun h => by have := x6 (by simpa [did] using h); simp [did, this], ⟨fun _ => below_nx hT hb, fun h => by simp [did, hl] at h⟩⟩
    · as_aux_lemma =>
        have hl : d 10 = false := by
          cases h : d 10
          · rfl
          · have := x6 h; simp [hd] at this
        replace hT := hT.1 hl
        have g1 := h1 (by simp [hdep])
        have g4 := h4 (by simp [hdep])
        unfold OpSteps
        simp [go_sem, evS, g1, g4, b2]
        exact ⟨fun h => by simpa [sput] using h0 (by simpa [did] using h), fun h => by simpa [sput] using h1 (by simpa [did] using h), fun h => by simpa [sput] using h2 (by simpa [did] using h), fun h => by simpa [sput] using h3 (by simpa [did] using h), fun h => by simpa [sput] using h4 (by simpa [did] using h), fun _ => by simp [sput], fun h => by simpa [sput] using h6 (by simpa [did] using h), fun h => by simpa [sput] using h7 (by simpa [did] using h), fun h => by simpa [sput] using h8 (by simpa [did] using h), fun h => by simpa [sput] using h9 (by simpa [did] using h), fun h => by have := x0 (by simpa [did] using h); simp [did, this], fun h => by have := x1 (by simpa [did] using h); simp [did, this], fun _ => by have y1 := x0 (by simp [hdep]); have y4 := x1 (by simp [hdep]); simp [did, hdep, y1, y4], fun h => by have := x3 (by simpa [did] using h); simp [did, this], fun h => by have := x4 (by simpa [did] using h); simp [did, this], fun h => by have := x5 (by simpa [did] using h); simp [did, this], fun h => by have := x6 (by simpa [did] using h); simp [did, this], ⟨fun _ => hT, fun h => by simp [did, hl] at h⟩⟩
    · as_aux_lemma =>
        have hl : d 10 = false := by
          cases h : d 10
          · rfl
          · have := x6 h; simp [hd] at this
        replace hT := hT.1 hl
        have g5 := h5 (by simp [hdep])
        unfold OpSteps
        have pc := cell_below HCi.out hT
        simp [go_sem, evS, g5, pc]
        exact ⟨fun h => by simpa [sput] using h0 (by simpa [did] using h), fun h => by simpa [sput] using h1 (by simpa [did] using h), fun h => by simpa [sput] using h2 (by simpa [did] using h), fun h => by simpa [sput] using h3 (by simpa [did] using h), fun h => by simpa [sput] using h4 (by simpa [did] using h), fun h => by simpa [sput] using h5 (by simpa [did] using h), fun _ => by simp [sput], fun h => by simpa [sput] using h7 (by simpa [did] using h), fun h => by simpa [sput] using h8 (by simpa [did] using h), fun h => by simpa [sput] using h9 (by simpa [did] using h), fun h => by have := x0 (by simpa [did] using h); simp [did, this], fun h => by have := x1 (by simpa [did] using h); simp [did, this], fun h => by have := x2 (by simpa [did] using h); simp [did, this], fun _ => by have y5 := x2 (by simp [hdep]); simp [did, hdep, y5], fun h => by have := x4 (by simpa [did] using h); simp [did, this], fun h => by have := x5 (by simpa [did] using h); simp [did, this], fun h => by have := x6 (by simpa [did] using h); simp [did, this], ⟨fun _ => hT, fun h => by simp [did, hl] at h⟩⟩
    · as_aux_lemma =>
        have hl : d 10 = false := by
          cases h : d 10
          · rfl
          · have := x6 h; simp [hd] at this
        replace hT := hT.1 hl
        unfold OpSteps
        simp [go_sem, evS, f6]
        exact ⟨fun h => by simpa [sput] using h0 (by simpa [did] using h), fun h => by simpa [sput] using h1 (by simpa [did] using h), fun h => by simpa [sput] using h2 (by simpa [did] using h), fun h => by simpa [sput] using h3 (by simpa [did] using h), fun h => by simpa [sput] using h4 (by simpa [did] using h), fun h => by simpa [sput] using h5 (by simpa [did] using h), fun h => by simpa [sput] using h6 (by simpa [did] using h), fun _ => by simp [sput], fun h => by simpa [sput] using h8 (by simpa [did] using h), fun h => by simpa [sput] using h9 (by simpa [did] using h), fun h => by have := x0 (by simpa [did] using h); simp [did, this], fun h => by have := x1 (by simpa [did] using h); simp [did, this], fun h => by have := x2 (by simpa [did] using h); simp [did, this], fun h => by have := x3 (by simpa [did] using h); simp [did, this], fun h => by have := x4 (by simpa [did] using h); simp [did, this], fun h => by have := x5 (by simpa [did] using h); simp [did, this], fun h => by have := x6 (by simpa [did] using h); simp [did, this], ⟨fun _ => hT, fun h => by simp [did, hl] at h⟩⟩
    · as_aux_lemma =>
        have hl : d 10 = false := by
          cases h : d 10
          · rfl
          · have := x6 h; simp [hd] at this
        replace hT := hT.1 hl
        have g6 := h6 (by simp [hdep])
        have g7 := h7 (by simp [hdep])
        unfold OpSteps
        simp [go_sem, evS, g6, g7]
        exact ⟨fun h => by simpa [sput] using h0 (by simpa [did] using h), fun h => by simpa [sput] using h1 (by simpa [did] using h), fun h => by simpa [sput] using h2 (by simpa [did] using h), fun h => by simpa [sput] using h3 (by simpa [did] using h), fun h => by simpa [sput] using h4 (by simpa [did] using h), fun h => by simpa [sput] using h5 (by simpa [did] using h), fun h => by simpa [sput] using h6 (by simpa [did] using h), fun h => by simpa [sput] using h7 (by simpa [did] using h), fun _ => ⟨fres .quo W yi v, by simp [sput], fres_comes _ _ _ _⟩, fun h => by simpa [sput] using h9 (by simpa [did] using h), fun h => by have := x0 (by simpa [did] using h); simp [did, this], fun h => by have := x1 (by simpa [did] using h); simp [did, this], fun h => by have := x2 (by simpa [did] using h); simp [did, this], fun h => by have := x3 (by simpa [did] using h); simp [did, this], fun _ => by have y6 := x3 (by simp [hdep]); simp [did, hdep, y6], fun h => by have := x5 (by simpa [did] using h); simp [did, this], fun h => by have := x6 (by simpa [did] using h); simp [did, this], ⟨fun _ => below_drewN hT _, fun h => by simp [did, hl] at h⟩⟩
    · as_aux_lemma =>
        have hl : d 10 = false := by
          cases h : d 10
          · rfl
          · have := x6 h; simp [hd] at this
        replace hT := hT.1 hl
        have g1 := h1 (by simp [hdep])
        have g4 := h4 (by simp [hdep])
        unfold OpSteps
        simp [go_sem, evS, g1, g4, b2]
        exact ⟨fun h => by simpa [sput] using h0 (by simpa [did] using h), fun h => by simpa [sput] using h1 (by simpa [did] using h), fun h => by simpa [sput] using h2 (by simpa [did] using h), fun h => by simpa [sput] using h3 (by simpa [did] using h), fun h => by simpa [sput] using h4 (by simpa [did] using h), fun h => by simpa [sput] using h5 (by simpa [did] using h), fun h => by simpa [sput] using h6 (by simpa [did] using h), fun h => by simpa [sput] using h7 (by simpa [did] using h), fun h => by simpa [sput] using h8 (by simpa [did] using h), fun _ => by simp [sput], fun h => by have := x0 (by simpa [did] using h); simp [did, this], fun h => by have := x1 (by simpa [did] using h); simp [did, this], fun h => by have := x2 (by simpa [did] using h); simp [did, this], fun h => by have := x3 (by simpa [did] using h); simp [did, this], fun h => by have := x4 (by simpa [did] using h); simp [did, this], fun _ => by have y1 := x0 (by simp [hdep]); have y4 := x1 (by simp [hdep]); simp [did, hdep, y1, y4], fun h => by have := x6 (by simpa [did] using h); simp [did, this], ⟨fun _ => hT, fun h => by simp [did, hl] at h⟩⟩
    · as_aux_lemma =>
        have g9 := h9 (by simp [hdep])
        have g8 := h8 (by simp [hdep])
        unfold OpSteps
        replace hT := hT.1 hd
        obtain ⟨r, gr, hr⟩ := g8
        have hfz := frz_belowr HFz.out hlt0 hT
        have hcl := cell_below HCi.out hT
        simp [go_sem, evS, g9, gr, hfz, hcl]
        exact ⟨fun h => by simpa [sput] using h0 (by simpa [did] using h), fun h => by simpa [sput] using h1 (by simpa [did] using h), fun h => by simpa [sput] using h2 (by simpa [did] using h), fun h => by simpa [sput] using h3 (by simpa [did] using h), fun h => by simpa [sput] using h4 (by simpa [did] using h), fun h => by simpa [sput] using h5 (by simpa [did] using h), fun h => by simpa [sput] using h6 (by simpa [did] using h), fun h => by simpa [sput] using h7 (by simpa [did] using h), fun h => by simpa [sput] using h8 (by simpa [did] using h), fun h => by simpa [sput] using h9 (by simpa [did] using h), fun h => by have := x0 (by simpa [did] using h); simp [did, this], fun h => by have := x1 (by simpa [did] using h); simp [did, this], fun h => by have := x2 (by simpa [did] using h); simp [did, this], fun h => by have := x3 (by simpa [did] using h); simp [did, this], fun h => by have := x4 (by simpa [did] using h); simp [did, this], fun h => by have := x5 (by simpa [did] using h); simp [did, this], fun _ => by have y8 := x4 (by simp [hdep]); have y9 := x5 (by simp [hdep]); simp [did, hdep, y8, y9], ⟨fun h => by simp [did] at h, fun _ => ⟨W, r, hT, rfl, hr⟩⟩⟩
  intro d s W hJ hd
  obtain ⟨h0, h1, h2, h3, h4, h5, h6, h7, h8, h9, x0, x1, x2, x3, x4, x5, x6, hT⟩ := hJ
  obtain ⟨W', r, hbw, rfl, hr⟩ := hT.2 (hd 10 (by decide))
  have HR := Lib.hid hr
  have HBw := Lib.hid hbw
  clear h0 h1 h2 h3 h4 h5 h6 h7 h8 h9 x0 x1 x2 x3 x4 x5 x6 hT hd hbw hr
  simp [setAll]
  generalize s 15 = s15
  generalize s 16 = s16
  generalize s 17 = s17
  generalize s 18 = s18
  generalize s 19 = s19
  generalize s 20 = s20
  generalize s 21 = s21
  generalize s 22 = s22
  generalize s 23 = s23
  generalize s 24 = s24
  go_wp2_with fail
  go_end0
  exact ⟨rfl, W', r, below_nx HB1.out HBw.out, rfl, HR.out⟩

end Go.Proofs.Ytcdhpoikppfjkaa
