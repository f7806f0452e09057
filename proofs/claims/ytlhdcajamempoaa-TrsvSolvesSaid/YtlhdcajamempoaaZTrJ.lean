/-
Trsv: the law's example; TrsvApplies. Conditions: as each says.
-/
import Derived.Test.YtlhdcajamempoaaZTrD
import Derived.Test.YtlhdcajamempoaaZTrF
import Derived.Test.YtlhdcajamempoaaZTrI
import Derived.Test.YtlhdcajamempoaaRae
import Derived.Test.YtlhdcajamempoaaZVwC
import Derived.Test.YtlhdcajamempoaaRaf
import Derived.Test.YtlhdcajamempoaaRal
import Derived.Test.YtlhdcajamempoaaRan
set_option linter.unusedVariables false
set_option linter.unusedSimpArgs false
set_option linter.unnecessarySimpa false
namespace Go.Proofs.Ytlhdcajamempoaa
open Go.RowKit
attribute [local go_sem ↓] Go.wp_at_zero Go.wp_at_succ

theorem MxC.of_row {w : World} {A : Option Addr} {l : List Nat} {n o R L : Nat} (h : Row w A (f64s l)) (hl : l.length = n) (hmr : R = 0 ∨ R = 0 ∨ o + (R - 1) * L + (R - 1) < n) : MxC w A o R L (fun i k => l.getD (o + i + k * L) 0) := fun i hi k hk => by
  have hP : o + i + k * L < l.length := by rw [hl]; exact tr_lt hmr hi hk
  obtain ⟨b, x, e, _, hc⟩ := h.at_ (f64s_get l _ hP)
  exact ⟨b, x, e, by show w.cell? _ = some (.float .f64 (l.getD (o + i + k * L) 0)); rw [getD_of_lt hP]; exact hc⟩
def exT1 : List Nat := [4616189618054758400, 4620693217682128896]
def exT2 : List Nat := [4611686018427387904, 4607182418800017408, 0, 4616189618054758400]
def exT3 : List Nat := [4611686018427387904, 0, 4607182418800017408, 4616189618054758400]
def exT4 : List Nat := [4607182418800017408, 4611686018427387904]
theorem exT1_wds : Wds exT1 := by intro b hb; simp [exT1] at hb; omega
theorem exT2_wds : Wds exT2 := by intro b hb; simp [exT2] at hb; omega
theorem exT3_wds : Wds exT3 := by intro b hb; simp [exT3] at hb; omega
theorem exT4_wds : Wds exT4 := by intro b hb; simp [exT4] at hb; omega
/-- The example's solution. -/
theorem ex_trs {E : Nat → Nat → Nat} {F : Nat → Nat} (h : TrS 2 2 (trV 2 (fun i k => exT3.getD (0 + i + k * 2) 0)) (fun p => exT1.getD (0 + p * 1) 0) E F) : F 0 = 4607182418800017408 ∧ F 1 = 4611686018427387904 := by
  have h1 : F 1 = fbin .quo (E 1 0) (trV 2 (fun i k => exT3.getD (0 + i + k * 2) 0) 1 1) := h.last 1 (by omega)
  rw [h.zero 1 (by omega)] at h1
  have h2 : F 1 = 4611686018427387904 := h1.trans (by decide +kernel)
  have h3 : E 0 1 = fbin .sub (E 0 0) (fbin .mul (trV 2 (fun i k => exT3.getD (0 + i + k * 2) 0) 0 1) (F 1)) := h.step 0 (by omega) 0 (by decide)
  rw [h.zero 0 (by omega), h2] at h3
  have h4 : E 0 1 = 4611686018427387904 := h3.trans (by decide +kernel)
  have h5 : F 0 = fbin .quo (E 0 1) (trV 2 (fun i k => exT3.getD (0 + i + k * 2) 0) 0 0) := h.last 0 (by omega)
  rw [h4] at h5
  exact ⟨h5.trans (by decide +kernel), h2⟩
theorem ex_trl {F : Nat → Nat} {y : List Nat} (h0 : F 0 = 4607182418800017408) (h1 : F 1 = 4611686018427387904) (h : TrL exT1 0 1 2 F y) : y = exT4 := by
  refine ext_getD h.1 fun x hx => ?_
  have hx2 : x < 2 := by have := h.1; change y.length = 2 at this; omega
  match x, hx2 with
  | 0, _ => have := h.2.1 0 (by omega); rw [h0] at this; exact this.eq_of (by decide)
  | 1, _ => have := h.2.1 1 (by omega); rw [h1] at this; exact this.eq_of (by decide)

set_option maxHeartbeats 2000000 in
theorem awake9_any (w : World) : Calls Try.prog 12 #[] w fun e w' => e = .returned (.bool true) ∧ Below w.heap.size w w' := by
  have z0 : I64 0 := by unfold I64; omega
  have z1 : I64 1 := by unfold I64; omega
  have z2 : I64 2 := by unfold I64; omega
  have HBd := Lib.hid (fun W => show Calls Try.prog 17 #[.int .i64 0, .agg #[.slice none 0 0, .int .i64 0, .int .i64 0, .int .i64 0, .int .i64 0], .agg #[.slice none 0 0, .int .i64 0, .int .i64 0, .int .i64 0]] W fun e w' => e = .returned (.int .i64 1) ∧ Below W.heap.size W w' from
    trsv_bad 0 none 0 0 0 0 0 0 none 0 0 0 0 0 W (by omega) z0 z0 z0 z0 (by omega) z0 z0 z0 rfl)
  have HDn := Lib.hid (fun W (A : Option Addr) (hA : Row W A (f64s exT2)) => show Calls Try.prog 8 #[.int .i64 2, .int .i64 2, .slice A 4 4] W fun e w' => ∃ g, e = .returned (.agg #[.slice (some ⟨g, 0, none⟩) 4 4, .int .i64 0, .int .i64 2, .int .i64 2, .int .i64 2]) ∧ Own w' g exT3 ∧ W.heap.size ≤ g ∧ Below W.heap.size W w' from by
    refine (dense_blk A 4 exT2 2 2 W (by omega) (by omega) hA (by decide) (by decide)).mono ?_
    rintro e w' ⟨g', M, rfl, hd, hB, hg, hb⟩
    obtain rfl := dense_ex hd
    exact ⟨g', rfl, own_blk hB, hg, hb⟩)
  have HSo := Lib.hid (fun (g gx : Nat) W (hO : Own W g exT3) (hX : Own W gx exT1) (h1 : gx ≠ g) => show Calls Try.prog 17 #[.int .i64 2, .agg #[.slice (some ⟨g, 0, none⟩) 4 4, .int .i64 0, .int .i64 2, .int .i64 2, .int .i64 2], .agg #[.slice (some ⟨gx, 0, none⟩) 2 2, .int .i64 0, .int .i64 2, .int .i64 1]] W fun e w' => e = .returned (.int .i64 0) ∧ Own w' gx exT4 ∧ Chg [gx] W w' from by
    obtain ⟨E, F, hS⟩ := trS_exists 2 2 (trV 2 (fun i k => exT3.getD (0 + i + k * 2) 0)) (fun p => exT1.getD (0 + p * 1) 0) (by omega)
    obtain ⟨hF0, hF1⟩ := ex_trs hS
    have hM := MxC.of_row (n := 4) (o := 0) (R := 2) (L := 2) hO.row rfl (by omega)
    refine (trsv_ok 2 (by omega) (some ⟨g, 0, none⟩) 4 4 0 2 2 (fun i k => exT3.getD (0 + i + k * 2) 0) gx 2 2 0 1 exT1 E F W (by omega) z2 (by omega) (by omega) (by omega) (by omega) z0 (by omega) z0 z1 (by omega) (by omega)
      (fun W' hb => trmeets_far gx 2 2 exT1 0 2 1 g 4 4 exT3 0 2 2 2 W' (hX.nxt hb) (hO.nxt hb) h1 rfl rfl (by omega) (by omega) z0 z2 z1 z0 z2 z2 z2)
      hM (by decide +kernel) ⟨by omega, by omega, z2, by omega, by omega, by omega, by omega, rfl, by omega, by omega, fun i k => tr_wds exT3_wds _, fun q hq => by omega, fun W' q v hq h i hi k hk => by
        obtain ⟨b, x, e, hc⟩ := h i hi k hk
        injection e with e; injection e with e1 e2
        subst e1
        exact ⟨g, x, by rw [e2], (cell_set (fun e => h1 e.symm) _).trans hc⟩, hX.lt⟩ hS hX exT1_wds).mono ?_
    rintro e w' ⟨rfl, y, k1, k2, k3⟩
    rw [ex_trl hF0 hF1 k1] at k2
    exact ⟨rfl, k2, k3⟩)
  have HAl := Lib.hid (fun (A B : Option Addr) (W : World) (h : Row W A (f64s exT4)) (h' : Row W B (f64s exT4)) => show Calls Try.prog 26 #[.slice A 2 2, .slice B 2 2] W fun e w' => e = .returned (.bool true) ∧ Below W.heap.size W w' from
    rall_any A B 2 2 exT4 exT4 W exT4_wds exT4_wds h h' (by decide) (Alike.refl _))
  have HB0 := Lib.hid ((Below.refl w.heap.size w))
  clear z0 z1 z2
  go_enter Try.func12, Try.ntmps12
  go_wp2_with fail
  refine (HBd.out _).mono ?_
  rintro e w1 ⟨rfl, hb⟩
  have HB1 := Lib.hid (below_nx HB0.out hb)
  clear hb
  go_wp2_with fail
  have HX1 := Lib.hid (own_blk (Blk.new w1 28 (f64s exT1).toArray))
  have HX2 := Lib.hid (HX1.out.nxt (below_one (o := (.cells (f64s exT2).toArray 28))))
  have HR2 := Lib.hid (own_blk (Blk.new_ (w1.alloc (.cells (f64s exT1).toArray 28)) 28 (f64s exT2).toArray (w1.heap.size + 1) (by simp))).row
  have HB2 := Lib.hid (below_al (below_al HB1.out (o := (.cells (f64s exT1).toArray 28))) (o := (.cells (f64s exT2).toArray 28)))
  refine (HDn.out _ _ HR2.out).mono ?_
  rintro e w2 ⟨g, rfl, hO, hg, hb⟩
  have HO3 := Lib.hid hO
  have HX3 := Lib.hid (HX2.out.nxt hb)
  have HB3 := Lib.hid (below_nx HB2.out hb)
  have hgx : w1.heap.size ≠ g := by simp at hg; omega
  clear hO hb hg
  go_wp2_with fail
  refine (HSo.out g _ _ HO3.out HX3.out hgx).mono ?_
  rintro e w3 ⟨rfl, hX, hc⟩
  have HX4 := Lib.hid hX
  have HB4 := Lib.hid (hc.below HB3.out HB3.out.size (by intro x hx; simp at hx; subst hx; exact HB1.out.size))
  clear hX hc
  go_wp2_with fail
  have HR4 := Lib.hid (HX4.out.nxt (below_one (o := (.cells (f64s exT4).toArray 28)))).row
  have HR5 := Lib.hid (own_blk (Blk.new w3 28 (f64s exT4).toArray)).row
  have HB5 := Lib.hid (below_al HB4.out (o := (.cells (f64s exT4).toArray 28)))
  refine (HAl.out _ _ _ HR4.out HR5.out).mono ?_
  rintro e w4 ⟨rfl, hb⟩
  have HB6 := Lib.hid (below_nx HB5.out hb)
  clear hb
  go_wp2_with fail
  go_ret
  exact ⟨rfl, HB6.out⟩

set_option maxHeartbeats 2000000 in
theorem trApplies_great (kd : Int) (Am : Option Addr) (nm cm : Nat) (mo mr mk ml : Int) (Al : Option Addr) (nl cl : Nat) (w : World) (h : (greatB nm mr mk || decide (60 < nl)) = true) : Calls Try.prog 5 #[.int .i64 kd, mat Am nm cm mo mr mk ml, .slice Al nl cl] w fun e w' => e = .returned (.bool true) ∧ Below w.heap.size w w' := by
  have HGr := Lib.hid (fun W => great_any Am nm cm mo mr mk ml W)
  generalize greatB nm mr mk = b1 at *
  cases b1
  · have hl : 60 < nl := by simpa using h
    have hl2 : (60 : Int) < (nl : Int) := by omega
    clear h
    unfold mat at *
    go_enter Try.func5, Try.ntmps5
    have Hm0 := Lib.hid (Blk.new w 26 #[.slice Am nm cm, .int .i64 mo, .int .i64 mr, .int .i64 mk, .int .i64 ml])
    have HB0 := Lib.hid ((Below.refl w.heap.size w).alloc (Nat.le_refl _) (.cells #[.slice Am nm cm, .int .i64 mo, .int .i64 mr, .int .i64 mk, .int .i64 ml] 26))
    obtain ⟨m0, m1, m2, m3, m4⟩ := cells5 Hm0.out
    go_wp2_with fail
    refine (awake9_any _).mono ?_
    rintro e w1 ⟨rfl, hb⟩
    have Hm1 := Lib.hid (Hm0.out.nxt hb)
    have HB1 := Lib.hid (below_nx HB0.out hb)
    clear hb
    clear m0 m1 m2 m3 m4
    obtain ⟨m0, m1, m2, m3, m4⟩ := cells5 Hm1.out
    go_wp2_with fail
    refine (HGr.out _).mono ?_
    rintro e w2 ⟨rfl, hb⟩
    have Hm2 := Lib.hid (Hm1.out.nxt hb)
    have HB2 := Lib.hid (below_nx HB1.out hb)
    clear hb
    clear m0 m1 m2 m3 m4
    obtain ⟨m0, m1, m2, m3, m4⟩ := cells5 Hm2.out
    go_wp2_with fail
    refine (awake9_any _).mono ?_
    rintro e w3 ⟨rfl, hb⟩
    have Hm3 := Lib.hid (Hm2.out.nxt hb)
    have HB3 := Lib.hid (below_nx HB2.out hb)
    clear hb
    clear m0 m1 m2 m3 m4
    obtain ⟨m0, m1, m2, m3, m4⟩ := cells5 Hm3.out
    go_wp2_with fail
    go_ret
    exact ⟨rfl, HB3.out⟩
  · clear h
    unfold mat at *
    go_enter Try.func5, Try.ntmps5
    have Hm0 := Lib.hid (Blk.new w 26 #[.slice Am nm cm, .int .i64 mo, .int .i64 mr, .int .i64 mk, .int .i64 ml])
    have HB0 := Lib.hid ((Below.refl w.heap.size w).alloc (Nat.le_refl _) (.cells #[.slice Am nm cm, .int .i64 mo, .int .i64 mr, .int .i64 mk, .int .i64 ml] 26))
    obtain ⟨m0, m1, m2, m3, m4⟩ := cells5 Hm0.out
    go_wp2_with fail
    refine (awake9_any _).mono ?_
    rintro e w1 ⟨rfl, hb⟩
    have Hm1 := Lib.hid (Hm0.out.nxt hb)
    have HB1 := Lib.hid (below_nx HB0.out hb)
    clear hb
    clear m0 m1 m2 m3 m4
    obtain ⟨m0, m1, m2, m3, m4⟩ := cells5 Hm1.out
    go_wp2_with fail
    refine (HGr.out _).mono ?_
    rintro e w2 ⟨rfl, hb⟩
    have Hm2 := Lib.hid (Hm1.out.nxt hb)
    have HB2 := Lib.hid (below_nx HB1.out hb)
    clear hb
    clear m0 m1 m2 m3 m4
    obtain ⟨m0, m1, m2, m3, m4⟩ := cells5 Hm2.out
    go_wp2_with fail
    refine (awake9_any _).mono ?_
    rintro e w3 ⟨rfl, hb⟩
    have Hm3 := Lib.hid (Hm2.out.nxt hb)
    have HB3 := Lib.hid (below_nx HB2.out hb)
    clear hb
    clear m0 m1 m2 m3 m4
    obtain ⟨m0, m1, m2, m3, m4⟩ := cells5 Hm3.out
    go_wp2_with fail
    go_ret
    exact ⟨rfl, HB3.out⟩

set_option maxHeartbeats 2000000 in
theorem trApplies_bad (kd : Int) (Am : Option Addr) (nm cm : Nat) (mo mr mk ml : Int) (Al : Option Addr) (nl cl : Nat) (w : World) (hn : nm ≤ 1000) (hmo : I64 mo) (hmr : I64 mr) (hmk : I64 mk) (hml : I64 ml) (hG : greatB nm mr mk = false) (hl : nl ≤ 60) (h : (trK kd && matB nm mo mr mk ml) = false) : Calls Try.prog 5 #[.int .i64 kd, mat Am nm cm mo mr mk ml, .slice Al nl cl] w fun e w' => e = .returned (.bool true) ∧ Below w.heap.size w w' := by
  have HGr := Lib.hid (fun W => great_any Am nm cm mo mr mk ml W)
  rw [hG] at HGr
  have HAp := Lib.hid (fun W => trapply_bad kd Am nm cm mo mr mk ml Al nl cl W (by omega) hmo hmr hmk hml h)
  have HGm := Lib.hid (fun W => rgood_any Am nm cm mo mr mk ml W (by omega) hmo hmr hmk hml)
  have hl2 : ¬ (60 : Int) < (nl : Int) := by omega
  obtain ⟨b1, hb1⟩ : ∃ b, decide (kd < 1) = b := ⟨_, rfl⟩
  obtain ⟨b2, hb2⟩ : ∃ b, decide (4 < kd) = b := ⟨_, rfl⟩
  have hbb : b1 = true ∨ (b1 = false ∧ b2 = true) ∨ (b1 = false ∧ b2 = false ∧ matB nm mo mr mk ml = false) := by
    unfold trK at h
    cases hm : matB nm mo mr mk ml
    · cases b1 <;> cases b2 <;> simp
    · rw [hm] at h
      simp at h
      rw [← hb1, ← hb2]
      simp
      omega
  clear h hn hmo hmr hmk hml hG hl
  rcases hbb with rfl | ⟨rfl, rfl⟩ | ⟨rfl, rfl, hm⟩
  · clear HGm
    unfold mat at *
    go_enter Try.func5, Try.ntmps5
    have Hm0 := Lib.hid (Blk.new w 26 #[.slice Am nm cm, .int .i64 mo, .int .i64 mr, .int .i64 mk, .int .i64 ml])
    have HB0 := Lib.hid ((Below.refl w.heap.size w).alloc (Nat.le_refl _) (.cells #[.slice Am nm cm, .int .i64 mo, .int .i64 mr, .int .i64 mk, .int .i64 ml] 26))
    obtain ⟨m0, m1, m2, m3, m4⟩ := cells5 Hm0.out
    go_wp2_with fail
    refine (awake9_any _).mono ?_
    rintro e w1 ⟨rfl, hb⟩
    have Hm1 := Lib.hid (Hm0.out.nxt hb)
    have HB1 := Lib.hid (below_nx HB0.out hb)
    clear hb
    clear m0 m1 m2 m3 m4
    obtain ⟨m0, m1, m2, m3, m4⟩ := cells5 Hm1.out
    go_wp2_with fail
    refine (HGr.out _).mono ?_
    rintro e w2 ⟨rfl, hb⟩
    have Hm2 := Lib.hid (Hm1.out.nxt hb)
    have HB2 := Lib.hid (below_nx HB1.out hb)
    clear hb
    clear m0 m1 m2 m3 m4
    obtain ⟨m0, m1, m2, m3, m4⟩ := cells5 Hm2.out
    go_wp2_with fail
    refine (HAp.out _).mono ?_
    rintro e w3 ⟨rfl, hb⟩
    have Hm3 := Lib.hid (Hm2.out.nxt hb)
    have HB3 := Lib.hid (below_nx HB2.out hb)
    clear hb
    clear m0 m1 m2 m3 m4
    obtain ⟨m0, m1, m2, m3, m4⟩ := cells5 Hm3.out
    go_wp2_with fail
    refine (awake9_any _).mono ?_
    rintro e w4 ⟨rfl, hb⟩
    have Hm4 := Lib.hid (Hm3.out.nxt hb)
    have HB4 := Lib.hid (below_nx HB3.out hb)
    clear hb
    clear m0 m1 m2 m3 m4
    obtain ⟨m0, m1, m2, m3, m4⟩ := cells5 Hm4.out
    go_wp2_with fail
    go_ret
    exact ⟨rfl, HB4.out⟩
  · clear HGm
    unfold mat at *
    go_enter Try.func5, Try.ntmps5
    have Hm0 := Lib.hid (Blk.new w 26 #[.slice Am nm cm, .int .i64 mo, .int .i64 mr, .int .i64 mk, .int .i64 ml])
    have HB0 := Lib.hid ((Below.refl w.heap.size w).alloc (Nat.le_refl _) (.cells #[.slice Am nm cm, .int .i64 mo, .int .i64 mr, .int .i64 mk, .int .i64 ml] 26))
    obtain ⟨m0, m1, m2, m3, m4⟩ := cells5 Hm0.out
    go_wp2_with fail
    refine (awake9_any _).mono ?_
    rintro e w1 ⟨rfl, hb⟩
    have Hm1 := Lib.hid (Hm0.out.nxt hb)
    have HB1 := Lib.hid (below_nx HB0.out hb)
    clear hb
    clear m0 m1 m2 m3 m4
    obtain ⟨m0, m1, m2, m3, m4⟩ := cells5 Hm1.out
    go_wp2_with fail
    refine (HGr.out _).mono ?_
    rintro e w2 ⟨rfl, hb⟩
    have Hm2 := Lib.hid (Hm1.out.nxt hb)
    have HB2 := Lib.hid (below_nx HB1.out hb)
    clear hb
    clear m0 m1 m2 m3 m4
    obtain ⟨m0, m1, m2, m3, m4⟩ := cells5 Hm2.out
    go_wp2_with fail
    refine (HAp.out _).mono ?_
    rintro e w3 ⟨rfl, hb⟩
    have Hm3 := Lib.hid (Hm2.out.nxt hb)
    have HB3 := Lib.hid (below_nx HB2.out hb)
    clear hb
    clear m0 m1 m2 m3 m4
    obtain ⟨m0, m1, m2, m3, m4⟩ := cells5 Hm3.out
    go_wp2_with fail
    refine (awake9_any _).mono ?_
    rintro e w4 ⟨rfl, hb⟩
    have Hm4 := Lib.hid (Hm3.out.nxt hb)
    have HB4 := Lib.hid (below_nx HB3.out hb)
    clear hb
    clear m0 m1 m2 m3 m4
    obtain ⟨m0, m1, m2, m3, m4⟩ := cells5 Hm4.out
    go_wp2_with fail
    go_ret
    exact ⟨rfl, HB4.out⟩
  · rw [hm] at HGm
    clear hm
    unfold mat at *
    go_enter Try.func5, Try.ntmps5
    have Hm0 := Lib.hid (Blk.new w 26 #[.slice Am nm cm, .int .i64 mo, .int .i64 mr, .int .i64 mk, .int .i64 ml])
    have HB0 := Lib.hid ((Below.refl w.heap.size w).alloc (Nat.le_refl _) (.cells #[.slice Am nm cm, .int .i64 mo, .int .i64 mr, .int .i64 mk, .int .i64 ml] 26))
    obtain ⟨m0, m1, m2, m3, m4⟩ := cells5 Hm0.out
    go_wp2_with fail
    refine (awake9_any _).mono ?_
    rintro e w1 ⟨rfl, hb⟩
    have Hm1 := Lib.hid (Hm0.out.nxt hb)
    have HB1 := Lib.hid (below_nx HB0.out hb)
    clear hb
    clear m0 m1 m2 m3 m4
    obtain ⟨m0, m1, m2, m3, m4⟩ := cells5 Hm1.out
    go_wp2_with fail
    refine (HGr.out _).mono ?_
    rintro e w2 ⟨rfl, hb⟩
    have Hm2 := Lib.hid (Hm1.out.nxt hb)
    have HB2 := Lib.hid (below_nx HB1.out hb)
    clear hb
    clear m0 m1 m2 m3 m4
    obtain ⟨m0, m1, m2, m3, m4⟩ := cells5 Hm2.out
    go_wp2_with fail
    refine (HAp.out _).mono ?_
    rintro e w3 ⟨rfl, hb⟩
    have Hm3 := Lib.hid (Hm2.out.nxt hb)
    have HB3 := Lib.hid (below_nx HB2.out hb)
    clear hb
    clear m0 m1 m2 m3 m4
    obtain ⟨m0, m1, m2, m3, m4⟩ := cells5 Hm3.out
    go_wp2_with fail
    refine (HGm.out _).mono ?_
    rintro e w4 ⟨rfl, hb⟩
    have Hm4 := Lib.hid (Hm3.out.nxt hb)
    have HB4 := Lib.hid (below_nx HB3.out hb)
    clear hb
    clear m0 m1 m2 m3 m4
    obtain ⟨m0, m1, m2, m3, m4⟩ := cells5 Hm4.out
    go_wp2_with fail
    refine (awake9_any _).mono ?_
    rintro e w5 ⟨rfl, hb⟩
    have Hm5 := Lib.hid (Hm4.out.nxt hb)
    have HB5 := Lib.hid (below_nx HB4.out hb)
    clear hb
    clear m0 m1 m2 m3 m4
    obtain ⟨m0, m1, m2, m3, m4⟩ := cells5 Hm5.out
    go_wp2_with fail
    go_ret
    exact ⟨rfl, HB5.out⟩

set_option maxHeartbeats 2000000 in
theorem trApplies_size (kd : Int) (Am : Option Addr) (nm cm : Nat) (mo mr mk ml : Int) (Al : Option Addr) (nl cl : Nat) (w : World) (hn : nm ≤ 1000) (hmo : I64 mo) (hmr : I64 mr) (hmk : I64 mk) (hml : I64 ml) (hG : greatB nm mr mk = false) (hl : nl ≤ 60) (h : (trK kd && matB nm mo mr mk ml) = true) (hs : ((mr == (nl : Int)) && (mk == (nl : Int))) = false) : Calls Try.prog 5 #[.int .i64 kd, mat Am nm cm mo mr mk ml, .slice Al nl cl] w fun e w' => e = .returned (.bool true) ∧ Below w.heap.size w w' := by
  have HGr := Lib.hid (fun W => great_any Am nm cm mo mr mk ml W)
  rw [hG] at HGr
  have HAp := Lib.hid (fun W => trapply_size kd Am nm cm mo mr mk ml Al nl cl W (by omega) hmo hmr hmk hml h hs)
  have HGm := Lib.hid (fun W => rgood_any Am nm cm mo mr mk ml W (by omega) hmo hmr hmk hml)
  have h2 := Bool.and_eq_true_iff.1 h
  rw [h2.2] at HGm
  have hk := h2.1
  unfold trK at hk
  have hl2 : ¬ (60 : Int) < (nl : Int) := by omega
  simp at hk
  have e1 : decide (kd < 1) = false := decide_eq_false (by omega)
  have e2 : decide (4 < kd) = false := decide_eq_false (by omega)
  obtain ⟨b1, hb1⟩ : ∃ b, (mr != mk) = b := ⟨_, rfl⟩
  obtain ⟨b2, hb2⟩ : ∃ b, ((nl : Int) != mr) = b := ⟨_, rfl⟩
  have hbb : b1 = true ∨ (b1 = false ∧ b2 = true) := by
    rw [← hb1, ← hb2]
    simp at hs ⊢
    omega
  have hb1' : (mr == mk) = !b1 := by rw [← hb1]; show _ = !(!(mr == mk)); rw [Bool.not_not]
  have hb2' : ((nl : Int) == mr) = !b2 := by rw [← hb2]; show _ = !(!((nl : Int) == mr)); rw [Bool.not_not]
  clear h h2 hk hn hmo hmr hmk hml hG hl hs
  rcases hbb with rfl | ⟨rfl, rfl⟩
  · clear hb2 hb2'
    unfold mat at *
    go_enter Try.func5, Try.ntmps5
    have Hm0 := Lib.hid (Blk.new w 26 #[.slice Am nm cm, .int .i64 mo, .int .i64 mr, .int .i64 mk, .int .i64 ml])
    have HB0 := Lib.hid ((Below.refl w.heap.size w).alloc (Nat.le_refl _) (.cells #[.slice Am nm cm, .int .i64 mo, .int .i64 mr, .int .i64 mk, .int .i64 ml] 26))
    obtain ⟨m0, m1, m2, m3, m4⟩ := cells5 Hm0.out
    go_wp2_with fail
    refine (awake9_any _).mono ?_
    rintro e w1 ⟨rfl, hb⟩
    have Hm1 := Lib.hid (Hm0.out.nxt hb)
    have HB1 := Lib.hid (below_nx HB0.out hb)
    clear hb
    clear m0 m1 m2 m3 m4
    obtain ⟨m0, m1, m2, m3, m4⟩ := cells5 Hm1.out
    go_wp2_with fail
    refine (HGr.out _).mono ?_
    rintro e w2 ⟨rfl, hb⟩
    have Hm2 := Lib.hid (Hm1.out.nxt hb)
    have HB2 := Lib.hid (below_nx HB1.out hb)
    clear hb
    clear m0 m1 m2 m3 m4
    obtain ⟨m0, m1, m2, m3, m4⟩ := cells5 Hm2.out
    go_wp2_with fail
    refine (HAp.out _).mono ?_
    rintro e w3 ⟨rfl, hb⟩
    have Hm3 := Lib.hid (Hm2.out.nxt hb)
    have HB3 := Lib.hid (below_nx HB2.out hb)
    clear hb
    clear m0 m1 m2 m3 m4
    obtain ⟨m0, m1, m2, m3, m4⟩ := cells5 Hm3.out
    go_wp2_with fail
    refine (HGm.out _).mono ?_
    rintro e w4 ⟨rfl, hb⟩
    have Hm4 := Lib.hid (Hm3.out.nxt hb)
    have HB4 := Lib.hid (below_nx HB3.out hb)
    clear hb
    clear m0 m1 m2 m3 m4
    obtain ⟨m0, m1, m2, m3, m4⟩ := cells5 Hm4.out
    go_wp2_with fail
    refine (awake9_any _).mono ?_
    rintro e w5 ⟨rfl, hb⟩
    have Hm5 := Lib.hid (Hm4.out.nxt hb)
    have HB5 := Lib.hid (below_nx HB4.out hb)
    clear hb
    clear m0 m1 m2 m3 m4
    obtain ⟨m0, m1, m2, m3, m4⟩ := cells5 Hm5.out
    go_wp2_with fail
    go_ret
    exact ⟨rfl, HB5.out⟩
  · skip
    unfold mat at *
    go_enter Try.func5, Try.ntmps5
    have Hm0 := Lib.hid (Blk.new w 26 #[.slice Am nm cm, .int .i64 mo, .int .i64 mr, .int .i64 mk, .int .i64 ml])
    have HB0 := Lib.hid ((Below.refl w.heap.size w).alloc (Nat.le_refl _) (.cells #[.slice Am nm cm, .int .i64 mo, .int .i64 mr, .int .i64 mk, .int .i64 ml] 26))
    obtain ⟨m0, m1, m2, m3, m4⟩ := cells5 Hm0.out
    go_wp2_with fail
    refine (awake9_any _).mono ?_
    rintro e w1 ⟨rfl, hb⟩
    have Hm1 := Lib.hid (Hm0.out.nxt hb)
    have HB1 := Lib.hid (below_nx HB0.out hb)
    clear hb
    clear m0 m1 m2 m3 m4
    obtain ⟨m0, m1, m2, m3, m4⟩ := cells5 Hm1.out
    go_wp2_with fail
    refine (HGr.out _).mono ?_
    rintro e w2 ⟨rfl, hb⟩
    have Hm2 := Lib.hid (Hm1.out.nxt hb)
    have HB2 := Lib.hid (below_nx HB1.out hb)
    clear hb
    clear m0 m1 m2 m3 m4
    obtain ⟨m0, m1, m2, m3, m4⟩ := cells5 Hm2.out
    go_wp2_with fail
    refine (HAp.out _).mono ?_
    rintro e w3 ⟨rfl, hb⟩
    have Hm3 := Lib.hid (Hm2.out.nxt hb)
    have HB3 := Lib.hid (below_nx HB2.out hb)
    clear hb
    clear m0 m1 m2 m3 m4
    obtain ⟨m0, m1, m2, m3, m4⟩ := cells5 Hm3.out
    go_wp2_with fail
    refine (HGm.out _).mono ?_
    rintro e w4 ⟨rfl, hb⟩
    have Hm4 := Lib.hid (Hm3.out.nxt hb)
    have HB4 := Lib.hid (below_nx HB3.out hb)
    clear hb
    clear m0 m1 m2 m3 m4
    obtain ⟨m0, m1, m2, m3, m4⟩ := cells5 Hm4.out
    go_wp2_with fail
    refine (awake9_any _).mono ?_
    rintro e w5 ⟨rfl, hb⟩
    have Hm5 := Lib.hid (Hm4.out.nxt hb)
    have HB5 := Lib.hid (below_nx HB4.out hb)
    clear hb
    clear m0 m1 m2 m3 m4
    obtain ⟨m0, m1, m2, m3, m4⟩ := cells5 Hm5.out
    go_wp2_with fail
    go_ret
    exact ⟨rfl, HB5.out⟩

set_option maxRecDepth 100000 in
set_option maxHeartbeats 2000000 in
theorem trApplies_ok (kd : Nat) (hkd : kd = 1 ∨ kd = 2 ∨ kd = 3 ∨ kd = 4) (Am : Option Addr) (nm cm : Nat) (lm : List Nat) (o R L : Nat) (Al : Option Addr) (cl : Nat) (l : List Nat) (w : World) (hAm : Row w Am (f64s lm)) (hWm : Wds lm) (hlm : lm.length = nm) (hn : nm ≤ 1000) (hoI : I64 o) (hLI : I64 L) (hR : R ≤ 20) (hL1 : 1 ≤ L) (hRL : R ≤ L) (hmr : R = 0 ∨ R = 0 ∨ o + (R - 1) * L + (R - 1) < nm)
    (hAl : Row w Al (f64s l)) (hWl : Wds l) (hl : l.length = R) :
    Calls Try.prog 5 #[.int .i64 (kd : Int), mat Am nm cm o R R L, .slice Al R cl] w fun e w' => e = .returned (.bool true) ∧ Below w.heap.size w w' := by
  have hG : greatB nm (R : Int) (R : Int) = false := by unfold greatB; simp; omega
  have HGr := Lib.hid (fun W => great_any Am nm cm o R R L W)
  rw [hG] at HGr
  have HGm := Lib.hid (fun W => rgood_any Am nm cm o R R L W (by omega) hoI (by unfold I64; omega) (by unfold I64; omega) hLI)
  rw [mat_right hL1 hRL hmr] at HGm
  have HAp := Lib.hid (fun W (hb : Below w.heap.size w W) => trapply_some kd hkd Am nm cm o R L (fun i k => lm.getD (o + i + k * L) 0) Al cl l W ((MxC.of_row hAm hlm hmr).below hb) (by omega) hLI (by omega) hL1 hRL hmr hoI (hAl.below hb) hl hWl (fun i k => tr_wds hWm _))
  obtain ⟨N, hN⟩ : ∃ N, R * R = N := ⟨_, rfl⟩
  have hNb : N ≤ 400 := by
    have h1 : R * R ≤ 20 * 20 := Nat.mul_le_mul hR hR
    omega
  have HOf := Lib.hid (fun W (hb : Below w.heap.size w W) => show Calls Try.prog 23 #[mat Am nm cm o R R L] W fun e w' => ∃ g T, e = .returned (tbl R R g N N) ∧ Tab lm o R R L N T ∧ Row w' (some ⟨g, 0, none⟩) (f64s T) ∧ Below W.heap.size W w' from by
    refine (rof_any Am nm cm lm o R R L N W (hAm.below hb) hlm (by omega) hN (by omega) (by omega) (by omega) hmr).mono ?_
    rintro e w' ⟨g', T, e1, e2, e3, _, e4⟩
    exact ⟨g', T, e1, e2, e3, e4⟩)
  obtain ⟨f, hf⟩ : ∃ f : Nat → Nat → Nat, (fun i k => lm.getD (o + i + k * L) 0) = f := ⟨_, rfl⟩
  have HRa := Lib.hid (fun g T W (hb : Below w.heap.size w W) (hT : Tab lm o R R L N T) (h : Row W (some ⟨g, 0, none⟩) (f64s T)) => show Calls Try.prog 29 #[.int .i64 (kd : Int), tbl R R g N N, .slice Al R cl] W fun e w' => ∃ B d X, e = .returned (.slice B R d) ∧ (X.length = R ∧ ∀ i, i < R → Is (X.getD i 0) (trSum kd f (fun k => l.getD k 0) i R)) ∧ Row w' B (f64s X) ∧ Below W.heap.size W w' from by
    have hag : ∀ p, p < R → ∀ q, q < R → T.getD (p * R + q) 0 = f p q := fun p hp q hq => by rw [tab_get hT hN hp hq, ← hf]
    have hWT : Wds T := by
      intro b hb2
      obtain ⟨k, hk, rfl⟩ := List.mem_iff_getElem.1 hb2
      rw [← getD_of_lt hk]
      have hk2 : k < R * R := by rw [hT.1] at hk; exact hk
      have hR0 : 0 < R := by
        rcases Nat.eq_zero_or_pos R with e | e
        · subst e; simp at hk2
        · exact e
      have e2 : k = k / R * R + k % R := by rw [Nat.mul_comm]; exact (Nat.div_add_mod k R).symm
      rw [e2, hag _ (Nat.div_lt_of_lt_mul hk2) _ (Nat.mod_lt _ hR0), ← hf]
      exact tr_wds hWm _
    refine (rtapply_any kd hkd R g N N T Al cl l W h (by rw [hT.1, hN]) hN (by omega) (by omega) hWT (hAl.below hb) hl hWl).mono ?_
    rintro e w' ⟨B, d, X, e1, e2, e3, e4, e5⟩
    exact ⟨B, d, X, e1, ⟨e2, fun i hi => by rw [← trSum_agree (f := fun i k => T.getD (i * R + k) 0) (f' := f) hag hi R (Nat.le_refl _)]; exact e3 i hi⟩, e4, e5⟩)
  rw [hf] at HAp
  obtain ⟨X0, hX0⟩ : ∃ X : Nat → Nat, (fun k => l.getD k 0) = X := ⟨_, rfl⟩
  rw [hX0] at HAp HRa
  have HAl := Lib.hid (fun (A B : Option Addr) (c d : Nat) (x y : List Nat) W (hx : x.length = R ∧ ∀ i, i < R → Is (x.getD i 0) (trSum kd f X0 i R)) (hy : y.length = R ∧ ∀ i, i < R → Is (y.getD i 0) (trSum kd f X0 i R)) (h1 : Row W A (f64s x)) (h2 : Row W B (f64s y)) => show Calls Try.prog 26 #[.slice A R c, .slice B R d] W fun e w' => e = .returned (.bool true) ∧ Below W.heap.size W w' from by
    have wd : ∀ z : List Nat, (z.length = R ∧ ∀ i, i < R → Is (z.getD i 0) (trSum kd f X0 i R)) → Wds z := fun z hz b hb => by
      obtain ⟨k, hk, rfl⟩ := List.mem_iff_getElem.1 hb
      rw [← getD_of_lt hk]
      exact (hz.2 k (by rw [← hz.1]; exact hk)).lt
    have hal : Alike x y := ⟨hx.1.trans hy.1.symm, fun k hk hk2 => by
      rw [← getD_of_lt hk, ← getD_of_lt hk2]
      exact (hx.2 k (by rw [← hx.1]; exact hk)).same (hy.2 k (by rw [← hx.1]; exact hk))⟩
    have := rall_any A B c d x y W (wd x hx) (wd y hy) h1 h2 (by rw [hx.1]; omega) hal
    rw [hx.1, hy.1] at this; exact this)
  have hl2 : ¬ (60 : Int) < (R : Int) := by omega
  have e1 : decide ((kd : Int) < 1) = false := by simp; omega
  have e2 : decide ((4 : Int) < (kd : Int)) = false := by simp; omega
  have tR : ((R : Int) == (R : Int)) = true := by simp
  have tR' : ((R : Int) != (R : Int)) = false := by simp
  clear hkd hAm hWm hlm hn hoI hLI hR hL1 hRL hmr hAl hWl hl hG hN hNb hf hX0
  unfold mat tbl at *
  go_enter Try.func5, Try.ntmps5
  have Hm0 := Lib.hid (Blk.new w 26 #[.slice Am nm cm, .int .i64 (o : Int), .int .i64 (R : Int), .int .i64 (R : Int), .int .i64 (L : Int)])
  have HB0 := Lib.hid ((Below.refl w.heap.size w).alloc (Nat.le_refl _) (.cells #[.slice Am nm cm, .int .i64 (o : Int), .int .i64 (R : Int), .int .i64 (R : Int), .int .i64 (L : Int)] 26))
  obtain ⟨m0, m1, m2, m3, m4⟩ := cells5 Hm0.out
  go_wp2_with fail
  refine (awake9_any _).mono ?_
  rintro e w1 ⟨rfl, hb⟩
  have Hm1 := Lib.hid (Hm0.out.nxt hb)
  have HB1 := Lib.hid (below_nx HB0.out hb)
  clear hb
  clear m0 m1 m2 m3 m4
  obtain ⟨m0, m1, m2, m3, m4⟩ := cells5 Hm1.out
  go_wp2_with fail
  refine (HGr.out _).mono ?_
  rintro e w2 ⟨rfl, hb⟩
  have Hm2 := Lib.hid (Hm1.out.nxt hb)
  have HB2 := Lib.hid (below_nx HB1.out hb)
  clear hb
  clear m0 m1 m2 m3 m4
  obtain ⟨m0, m1, m2, m3, m4⟩ := cells5 Hm2.out
  go_wp2_with fail
  refine (HAp.out _ HB2.out).mono ?_
  rintro e w3 ⟨gy, l', rfl, h1, h2, h3, hb⟩
  have HP := Lib.hid (And.intro h1 h2)
  have Hm3 := Lib.hid (Hm2.out.nxt hb)
  have HB3 := Lib.hid (below_nx HB2.out hb)
  clear hb
  clear m0 m1 m2 m3 m4
  obtain ⟨m0, m1, m2, m3, m4⟩ := cells5 Hm3.out
  have Hy3 := Lib.hid h3
  clear h1 h2 h3
  go_wp2_with fail
  refine (HGm.out _).mono ?_
  rintro e w4 ⟨rfl, hb⟩
  have Hm4 := Lib.hid (Hm3.out.nxt hb)
  have Hy4 := Lib.hid (Hy3.out.nxt hb)
  have HB4 := Lib.hid (below_nx HB3.out hb)
  clear hb
  clear m0 m1 m2 m3 m4
  obtain ⟨m0, m1, m2, m3, m4⟩ := cells5 Hm4.out
  go_wp2_with fail
  refine (HOf.out _ HB4.out).mono ?_
  rintro e w5 ⟨gT, T, rfl, hT, hRw, hb⟩
  have HTt := Lib.hid hT
  have Hm5 := Lib.hid (Hm4.out.nxt hb)
  have Hy5 := Lib.hid (Hy4.out.nxt hb)
  have HB5 := Lib.hid (below_nx HB4.out hb)
  clear hb
  clear m0 m1 m2 m3 m4
  obtain ⟨m0, m1, m2, m3, m4⟩ := cells5 Hm5.out
  have HT5 := Lib.hid hRw
  clear hT hRw
  go_wp2_with fail
  refine (HRa.out gT T _ HB5.out HTt.out HT5.out).mono ?_
  rintro e w6 ⟨B, d, X, rfl, hX, hRw, hb⟩
  have HX := Lib.hid hX
  have Hm6 := Lib.hid (Hm5.out.nxt hb)
  have Hy6 := Lib.hid (Hy5.out.nxt hb)
  have HT6 := Lib.hid (HT5.out.below hb)
  have HB6 := Lib.hid (below_nx HB5.out hb)
  clear hb
  clear m0 m1 m2 m3 m4
  obtain ⟨m0, m1, m2, m3, m4⟩ := cells5 Hm6.out
  have HX96 := Lib.hid hRw
  clear hX hRw
  go_wp2_with fail
  refine (HAl.out _ _ _ _ _ _ _ HP.out HX.out Hy6.out.row HX96.out).mono ?_
  rintro e w7 ⟨rfl, hb⟩
  have Hm7 := Lib.hid (Hm6.out.nxt hb)
  have Hy7 := Lib.hid (Hy6.out.nxt hb)
  have HT7 := Lib.hid (HT6.out.below hb)
  have HX97 := Lib.hid (HX96.out.below hb)
  have HB7 := Lib.hid (below_nx HB6.out hb)
  clear hb
  clear m0 m1 m2 m3 m4
  obtain ⟨m0, m1, m2, m3, m4⟩ := cells5 Hm7.out
  go_wp2_with fail
  refine (awake9_any _).mono ?_
  rintro e w8 ⟨rfl, hb⟩
  have Hm8 := Lib.hid (Hm7.out.nxt hb)
  have Hy8 := Lib.hid (Hy7.out.nxt hb)
  have HT8 := Lib.hid (HT7.out.below hb)
  have HX98 := Lib.hid (HX97.out.below hb)
  have HB8 := Lib.hid (below_nx HB7.out hb)
  clear hb
  clear m0 m1 m2 m3 m4
  obtain ⟨m0, m1, m2, m3, m4⟩ := cells5 Hm8.out
  go_wp2_with fail
  go_ret
  exact ⟨rfl, HB8.out⟩

theorem trApplies_walk (kd : Int) (Am : Option Addr) (cm : Nat) (lm : List Nat) (mo mr mk ml : Int) (Al : Option Addr) (cl : Nat) (l : List Nat) (w : World) (hAm : Row w Am (f64s lm)) (hWm : Wds lm) (hmo : I64 mo) (hmr : I64 mr) (hmk : I64 mk) (hml : I64 ml) (hAl : Row w Al (f64s l)) (hWl : Wds l) :
    Calls Try.prog 5 #[.int .i64 kd, mat Am lm.length cm mo mr mk ml, .slice Al l.length cl] w fun e w' => e = .returned (.bool true) ∧ Below w.heap.size w w' := by
  cases hG : (greatB lm.length mr mk || decide (60 < l.length))
  · have hG2 : greatB lm.length mr mk = false ∧ l.length ≤ 60 := by
      rw [Bool.or_eq_false_iff] at hG
      exact ⟨hG.1, by have := hG.2; simp at this; exact this⟩
    have hn : lm.length ≤ 1000 ∧ mr ≤ 20 := by have h := hG2.1; unfold greatB at h; simp at h; omega
    cases h : (trK kd && matB lm.length mo mr mk ml)
    · exact trApplies_bad kd Am _ cm mo mr mk ml Al _ cl w hn.1 hmo hmr hmk hml hG2.1 hG2.2 h
    · by_cases hs : mr = (l.length : Int) ∧ mk = (l.length : Int)
      · have h2 := Bool.and_eq_true_iff.1 h
        obtain ⟨o, R, C, L, rfl, rfl, rfl, rfl, hL1, hRL, hmr2⟩ := mat_nat h2.2
        have e1 : R = l.length := by omega
        have e2 : C = l.length := by omega
        subst e1
        subst e2
        have hk := h2.1
        unfold trK at hk
        simp at hk
        obtain ⟨q, rfl⟩ : ∃ q : Nat, kd = q := ⟨kd.toNat, by omega⟩
        exact trApplies_ok q (by omega) Am _ cm lm o _ L Al cl l w hAm hWm rfl hn.1 hmo hml (by omega) hL1 hRL hmr2 hAl hWl rfl
      · exact trApplies_size kd Am _ cm mo mr mk ml Al _ cl w hn.1 hmo hmr hmk hml hG2.1 hG2.2 h (by simp; omega)
  · exact trApplies_great kd Am _ cm mo mr mk ml Al _ cl w hG

end Go.Proofs.Ytlhdcajamempoaa
