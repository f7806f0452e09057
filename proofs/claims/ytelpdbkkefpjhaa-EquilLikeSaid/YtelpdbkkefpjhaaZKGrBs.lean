/-
Ger: what Shift and Eye hand in for each number. Conditions: as each says.
-/
import Derived.Test.YtelpdbkkefpjhaaWKm
import Derived.Test.YtelpdbkkefpjhaaZKNumD
set_option linter.unusedVariables false
set_option linter.unusedSimpArgs false
set_option linter.unnecessarySimpa false
namespace Go.Proofs.Ytelpdbkkefpjhaa
open Go.RowKit
attribute [local go_sem ↓] Go.wp_at_zero Go.wp_at_succ

theorem grshift_enters : Enters Try.prog 60 := enters_of Try.func60 (by kernel_rfl) rfl
/-- An exponent that counts. -/
def bndI (k : Int) : Int := if k < -1073741824 then -1073741824 else if 1073741824 < k then 1073741824 else k
theorem bndI_in (k : Int) : -1073741824 ≤ bndI k ∧ bndI k ≤ 1073741824 := by unfold bndI; split <;> (try split) <;> omega
theorem grbounded_any (k : Int) (w : World) : Calls Try.prog 61 #[.int .i64 k] w fun e w' => e = .returned (.int .i64 (bndI k)) ∧ w = w' := by
  have e1 : bndI k = min (max k (-1073741824)) 1073741824 := by unfold bndI; split <;> (try split) <;> omega
  rw [e1]
  clear e1
  go_enter Try.func61, Try.ntmps61
  go_wp2_with fail
  all_goals (go_ret; exact ⟨congrArg (fun z => Ending.returned (Value.int IntKind.i64 z)) (by omega), rfl⟩)

/-- The exponent that counts for a number. -/
def shfE (kr kc : Int) : Int := bndI (bndI kr + bndI kc)
set_option maxRecDepth 100000 in
set_option maxHeartbeats 1000000 in
/-- What Shift does to a number. -/
theorem grshift_one (y i j : Nat) (kr kc : Int) (pr br r0 nr cr pc bc q0 nc cc : Nat) (w : World) (hkr : w.cell? ⟨pr, 0, none⟩ = some (.slice (some ⟨br, r0, none⟩) nr cr)) (hkc : w.cell? ⟨pc, 0, none⟩ = some (.slice (some ⟨bc, q0, none⟩) nc cc))
    (hcr : w.cell? ⟨br, r0 + i, none⟩ = some (.int .i64 kr)) (hcc : w.cell? ⟨bc, q0 + j, none⟩ = some (.int .i64 kc)) (b1 : i < nr) (b2 : j < nc) (hy : y < 18446744073709551616) :
    Calls Try.prog 60 #[.int .i64 (i : Int), .int .i64 (j : Int), .float .f64 y, .pointer (some ⟨pr, 0, none⟩), .pointer (some ⟨pc, 0, none⟩)] w fun e w' => e = .returned (.float .f64 (Fl.scale y (shfE kr kc))) ∧ Below w.heap.size w w' := by
  unfold shfE
  have hq1 := bndI_in kr
  have hq2 := bndI_in kc
  have HBd := Lib.hid (fun (k z : Int) (h : bndI k = z) W => show Calls Try.prog 61 #[.int .i64 k] W fun e w' => e = .returned (.int .i64 z) ∧ W = w' from by rw [← h]; exact grbounded_any k W)
  obtain ⟨zr, hzr⟩ : ∃ zr, bndI kr = zr := ⟨_, rfl⟩
  obtain ⟨zc, hzc⟩ : ∃ zc, bndI kc = zc := ⟨_, rfl⟩
  rw [hzr] at hq1
  rw [hzc] at hq2
  rw [hzr, hzc]
  obtain ⟨zs, hzs⟩ : ∃ zs, zr + zc = zs := ⟨_, rfl⟩
  have wz2 : IntKind.i64.wrap (zr + zc) = zs := by rw [hzs]; exact wrapi (by omega) (by omega)
  have wz : wrap64 (zr + zc) = zs := by rw [hzs]; exact wrap_id (by unfold I64; omega)
  rw [hzs]
  obtain ⟨zf, hzf⟩ : ∃ zf, bndI zs = zf := ⟨_, rfl⟩
  rw [hzf]
  have hzr := Lib.hid hzr
  have hzc := Lib.hid hzc
  have hzf := Lib.hid hzf
  have HSc := Lib.hid (fun W => scale_any y zf W hy)
  have HKr := Lib.hid hkr
  have HKc := Lib.hid hkc
  have HCr := Lib.hid hcr
  have HCc := Lib.hid hcc
  clear hq1 hq2 hkr hkc hcr hcc hy hzs
  go_enter Try.func60, Try.ntmps60
  go_wp2_with fail
  refine wp_region_inv [9, 10, 11, 12, 13, 14, 15, 16, 17, 18, 19, 20, 21, 22, 8] (fun d s W => (d 0 = true → s 9 = .float .f64 y) ∧ (d 1 = true → s 10 = .slice (some ⟨br, r0, none⟩) nr cr) ∧ (d 2 = true → s 11 = .int .i64 (i : Int)) ∧ (d 3 = true → s 12 = .pointer (some ⟨br, r0 + i, none⟩)) ∧ (d 4 = true → s 13 = .int .i64 kr) ∧ (d 5 = true → s 14 = .int .i64 zr) ∧ (d 6 = true → s 15 = .slice (some ⟨bc, q0, none⟩) nc cc) ∧ (d 7 = true → s 16 = .int .i64 (j : Int)) ∧ (d 8 = true → s 17 = .pointer (some ⟨bc, q0 + j, none⟩)) ∧ (d 9 = true → s 18 = .int .i64 kc) ∧ (d 10 = true → s 19 = .int .i64 zc) ∧ (d 11 = true → s 20 = .int .i64 zs) ∧ (d 12 = true → s 21 = .int .i64 zf) ∧ (d 13 = true → s 22 = .float .f64 (Fl.scale y zf)) ∧ (d 14 = true → s 8 = .float .f64 (Fl.scale y zf)) ∧ Below w.heap.size w W)
    rfl (by kernel_rfl) ?_ ?_ ?_
  · exact ⟨by simp, by simp, by simp, by simp, by simp, by simp, by simp, by simp, by simp, by simp, by simp, by simp, by simp, by simp, by simp, (Below.refl _ _).drew⟩
  · refine ⟨?_, ?_, ?_, ?_, ?_, ?_, ?_, ?_, ?_, ?_, ?_, ?_, ?_, ?_, ?_, trivial⟩
    all_goals
      intro d s W hJ hfr hd hdep
      simp only [List.mem_cons, forall_eq_or_imp, List.not_mem_nil, false_implies, implies_true, and_true, Region.binds] at hdep
      have f0 := hfr 0 (by decide)
      have f1 := hfr 1 (by decide)
      have f2 := hfr 2 (by decide)
      have f3 := hfr 3 (by decide)
      have f4 := hfr 4 (by decide)
      simp at f0 f1 f2 f3 f4 hdep
      obtain ⟨h0, h1, h2, h3, h4, h5, h6, h7, h8, h9, h10, h11, h12, h13, h14, hT⟩ := hJ
    · unfold OpSteps
      simp [go_sem, evS, f2]
      exact ⟨fun _ => by simp [sput], fun h => by simpa [sput] using h1 (by simpa [did] using h), fun h => by simpa [sput] using h2 (by simpa [did] using h), fun h => by simpa [sput] using h3 (by simpa [did] using h), fun h => by simpa [sput] using h4 (by simpa [did] using h), fun h => by simpa [sput] using h5 (by simpa [did] using h), fun h => by simpa [sput] using h6 (by simpa [did] using h), fun h => by simpa [sput] using h7 (by simpa [did] using h), fun h => by simpa [sput] using h8 (by simpa [did] using h), fun h => by simpa [sput] using h9 (by simpa [did] using h), fun h => by simpa [sput] using h10 (by simpa [did] using h), fun h => by simpa [sput] using h11 (by simpa [did] using h), fun h => by simpa [sput] using h12 (by simpa [did] using h), fun h => by simpa [sput] using h13 (by simpa [did] using h), fun h => by simpa [sput] using h14 (by simpa [did] using h), hT⟩
    · unfold OpSteps
      have pc := cell_below HKr.out hT
      simp [go_sem, evS, f3, pc]
      exact ⟨fun h => by simpa [sput] using h0 (by simpa [did] using h), fun _ => by simp [sput], fun h => by simpa [sput] using h2 (by simpa [did] using h), fun h => by simpa [sput] using h3 (by simpa [did] using h), fun h => by simpa [sput] using h4 (by simpa [did] using h), fun h => by simpa [sput] using h5 (by simpa [did] using h), fun h => by simpa [sput] using h6 (by simpa [did] using h), fun h => by simpa [sput] using h7 (by simpa [did] using h), fun h => by simpa [sput] using h8 (by simpa [did] using h), fun h => by simpa [sput] using h9 (by simpa [did] using h), fun h => by simpa [sput] using h10 (by simpa [did] using h), fun h => by simpa [sput] using h11 (by simpa [did] using h), fun h => by simpa [sput] using h12 (by simpa [did] using h), fun h => by simpa [sput] using h13 (by simpa [did] using h), fun h => by simpa [sput] using h14 (by simpa [did] using h), hT⟩
    · unfold OpSteps
      simp [go_sem, evS, f0]
      exact ⟨fun h => by simpa [sput] using h0 (by simpa [did] using h), fun h => by simpa [sput] using h1 (by simpa [did] using h), fun _ => by simp [sput], fun h => by simpa [sput] using h3 (by simpa [did] using h), fun h => by simpa [sput] using h4 (by simpa [did] using h), fun h => by simpa [sput] using h5 (by simpa [did] using h), fun h => by simpa [sput] using h6 (by simpa [did] using h), fun h => by simpa [sput] using h7 (by simpa [did] using h), fun h => by simpa [sput] using h8 (by simpa [did] using h), fun h => by simpa [sput] using h9 (by simpa [did] using h), fun h => by simpa [sput] using h10 (by simpa [did] using h), fun h => by simpa [sput] using h11 (by simpa [did] using h), fun h => by simpa [sput] using h12 (by simpa [did] using h), fun h => by simpa [sput] using h13 (by simpa [did] using h), fun h => by simpa [sput] using h14 (by simpa [did] using h), hT⟩
    · have g1 := h1 (by simp [hdep])
      have g2 := h2 (by simp [hdep])
      unfold OpSteps
      simp [go_sem, evS, g1, g2, b1, b2]
      exact ⟨fun h => by simpa [sput] using h0 (by simpa [did] using h), fun h => by simpa [sput] using h1 (by simpa [did] using h), fun h => by simpa [sput] using h2 (by simpa [did] using h), fun _ => by simp [sput], fun h => by simpa [sput] using h4 (by simpa [did] using h), fun h => by simpa [sput] using h5 (by simpa [did] using h), fun h => by simpa [sput] using h6 (by simpa [did] using h), fun h => by simpa [sput] using h7 (by simpa [did] using h), fun h => by simpa [sput] using h8 (by simpa [did] using h), fun h => by simpa [sput] using h9 (by simpa [did] using h), fun h => by simpa [sput] using h10 (by simpa [did] using h), fun h => by simpa [sput] using h11 (by simpa [did] using h), fun h => by simpa [sput] using h12 (by simpa [did] using h), fun h => by simpa [sput] using h13 (by simpa [did] using h), fun h => by simpa [sput] using h14 (by simpa [did] using h), hT⟩
    · have g3 := h3 (by simp [hdep])
      unfold OpSteps
      have pc := cell_below HCr.out hT
      simp [go_sem, evS, g3, pc]
      exact ⟨fun h => by simpa [sput] using h0 (by simpa [did] using h), fun h => by simpa [sput] using h1 (by simpa [did] using h), fun h => by simpa [sput] using h2 (by simpa [did] using h), fun h => by simpa [sput] using h3 (by simpa [did] using h), fun _ => by simp [sput], fun h => by simpa [sput] using h5 (by simpa [did] using h), fun h => by simpa [sput] using h6 (by simpa [did] using h), fun h => by simpa [sput] using h7 (by simpa [did] using h), fun h => by simpa [sput] using h8 (by simpa [did] using h), fun h => by simpa [sput] using h9 (by simpa [did] using h), fun h => by simpa [sput] using h10 (by simpa [did] using h), fun h => by simpa [sput] using h11 (by simpa [did] using h), fun h => by simpa [sput] using h12 (by simpa [did] using h), fun h => by simpa [sput] using h13 (by simpa [did] using h), fun h => by simpa [sput] using h14 (by simpa [did] using h), hT⟩
    · have g4 := h4 (by simp [hdep])
      unfold OpSteps
      simp [go_sem, evS, g4]
      refine (HBd.out kr zr hzr.out W).mono ?_
      rintro e W' ⟨rfl, rfl⟩
      refine ⟨_, rfl, ?_⟩
      exact ⟨fun h => by simpa [sput] using h0 (by simpa [did] using h), fun h => by simpa [sput] using h1 (by simpa [did] using h), fun h => by simpa [sput] using h2 (by simpa [did] using h), fun h => by simpa [sput] using h3 (by simpa [did] using h), fun h => by simpa [sput] using h4 (by simpa [did] using h), fun _ => by simp [sput], fun h => by simpa [sput] using h6 (by simpa [did] using h), fun h => by simpa [sput] using h7 (by simpa [did] using h), fun h => by simpa [sput] using h8 (by simpa [did] using h), fun h => by simpa [sput] using h9 (by simpa [did] using h), fun h => by simpa [sput] using h10 (by simpa [did] using h), fun h => by simpa [sput] using h11 (by simpa [did] using h), fun h => by simpa [sput] using h12 (by simpa [did] using h), fun h => by simpa [sput] using h13 (by simpa [did] using h), fun h => by simpa [sput] using h14 (by simpa [did] using h), hT⟩
    · unfold OpSteps
      have pc := cell_below HKc.out hT
      simp [go_sem, evS, f4, pc]
      exact ⟨fun h => by simpa [sput] using h0 (by simpa [did] using h), fun h => by simpa [sput] using h1 (by simpa [did] using h), fun h => by simpa [sput] using h2 (by simpa [did] using h), fun h => by simpa [sput] using h3 (by simpa [did] using h), fun h => by simpa [sput] using h4 (by simpa [did] using h), fun h => by simpa [sput] using h5 (by simpa [did] using h), fun _ => by simp [sput], fun h => by simpa [sput] using h7 (by simpa [did] using h), fun h => by simpa [sput] using h8 (by simpa [did] using h), fun h => by simpa [sput] using h9 (by simpa [did] using h), fun h => by simpa [sput] using h10 (by simpa [did] using h), fun h => by simpa [sput] using h11 (by simpa [did] using h), fun h => by simpa [sput] using h12 (by simpa [did] using h), fun h => by simpa [sput] using h13 (by simpa [did] using h), fun h => by simpa [sput] using h14 (by simpa [did] using h), hT⟩
    · unfold OpSteps
      simp [go_sem, evS, f1]
      exact ⟨fun h => by simpa [sput] using h0 (by simpa [did] using h), fun h => by simpa [sput] using h1 (by simpa [did] using h), fun h => by simpa [sput] using h2 (by simpa [did] using h), fun h => by simpa [sput] using h3 (by simpa [did] using h), fun h => by simpa [sput] using h4 (by simpa [did] using h), fun h => by simpa [sput] using h5 (by simpa [did] using h), fun h => by simpa [sput] using h6 (by simpa [did] using h), fun _ => by simp [sput], fun h => by simpa [sput] using h8 (by simpa [did] using h), fun h => by simpa [sput] using h9 (by simpa [did] using h), fun h => by simpa [sput] using h10 (by simpa [did] using h), fun h => by simpa [sput] using h11 (by simpa [did] using h), fun h => by simpa [sput] using h12 (by simpa [did] using h), fun h => by simpa [sput] using h13 (by simpa [did] using h), fun h => by simpa [sput] using h14 (by simpa [did] using h), hT⟩
    · have g6 := h6 (by simp [hdep])
      have g7 := h7 (by simp [hdep])
      unfold OpSteps
      simp [go_sem, evS, g6, g7, b1, b2]
      exact ⟨fun h => by simpa [sput] using h0 (by simpa [did] using h), fun h => by simpa [sput] using h1 (by simpa [did] using h), fun h => by simpa [sput] using h2 (by simpa [did] using h), fun h => by simpa [sput] using h3 (by simpa [did] using h), fun h => by simpa [sput] using h4 (by simpa [did] using h), fun h => by simpa [sput] using h5 (by simpa [did] using h), fun h => by simpa [sput] using h6 (by simpa [did] using h), fun h => by simpa [sput] using h7 (by simpa [did] using h), fun _ => by simp [sput], fun h => by simpa [sput] using h9 (by simpa [did] using h), fun h => by simpa [sput] using h10 (by simpa [did] using h), fun h => by simpa [sput] using h11 (by simpa [did] using h), fun h => by simpa [sput] using h12 (by simpa [did] using h), fun h => by simpa [sput] using h13 (by simpa [did] using h), fun h => by simpa [sput] using h14 (by simpa [did] using h), hT⟩
    · have g8 := h8 (by simp [hdep])
      unfold OpSteps
      have pc := cell_below HCc.out hT
      simp [go_sem, evS, g8, pc]
      exact ⟨fun h => by simpa [sput] using h0 (by simpa [did] using h), fun h => by simpa [sput] using h1 (by simpa [did] using h), fun h => by simpa [sput] using h2 (by simpa [did] using h), fun h => by simpa [sput] using h3 (by simpa [did] using h), fun h => by simpa [sput] using h4 (by simpa [did] using h), fun h => by simpa [sput] using h5 (by simpa [did] using h), fun h => by simpa [sput] using h6 (by simpa [did] using h), fun h => by simpa [sput] using h7 (by simpa [did] using h), fun h => by simpa [sput] using h8 (by simpa [did] using h), fun _ => by simp [sput], fun h => by simpa [sput] using h10 (by simpa [did] using h), fun h => by simpa [sput] using h11 (by simpa [did] using h), fun h => by simpa [sput] using h12 (by simpa [did] using h), fun h => by simpa [sput] using h13 (by simpa [did] using h), fun h => by simpa [sput] using h14 (by simpa [did] using h), hT⟩
    · have g9 := h9 (by simp [hdep])
      unfold OpSteps
      simp [go_sem, evS, g9]
      refine (HBd.out kc zc hzc.out W).mono ?_
      rintro e W' ⟨rfl, rfl⟩
      refine ⟨_, rfl, ?_⟩
      exact ⟨fun h => by simpa [sput] using h0 (by simpa [did] using h), fun h => by simpa [sput] using h1 (by simpa [did] using h), fun h => by simpa [sput] using h2 (by simpa [did] using h), fun h => by simpa [sput] using h3 (by simpa [did] using h), fun h => by simpa [sput] using h4 (by simpa [did] using h), fun h => by simpa [sput] using h5 (by simpa [did] using h), fun h => by simpa [sput] using h6 (by simpa [did] using h), fun h => by simpa [sput] using h7 (by simpa [did] using h), fun h => by simpa [sput] using h8 (by simpa [did] using h), fun h => by simpa [sput] using h9 (by simpa [did] using h), fun _ => by simp [sput], fun h => by simpa [sput] using h11 (by simpa [did] using h), fun h => by simpa [sput] using h12 (by simpa [did] using h), fun h => by simpa [sput] using h13 (by simpa [did] using h), fun h => by simpa [sput] using h14 (by simpa [did] using h), hT⟩
    · have g5 := h5 (by simp [hdep])
      have g10 := h10 (by simp [hdep])
      unfold OpSteps
      simp [go_sem, evS, g5, g10, wz, wz2]
      exact ⟨fun h => by simpa [sput] using h0 (by simpa [did] using h), fun h => by simpa [sput] using h1 (by simpa [did] using h), fun h => by simpa [sput] using h2 (by simpa [did] using h), fun h => by simpa [sput] using h3 (by simpa [did] using h), fun h => by simpa [sput] using h4 (by simpa [did] using h), fun h => by simpa [sput] using h5 (by simpa [did] using h), fun h => by simpa [sput] using h6 (by simpa [did] using h), fun h => by simpa [sput] using h7 (by simpa [did] using h), fun h => by simpa [sput] using h8 (by simpa [did] using h), fun h => by simpa [sput] using h9 (by simpa [did] using h), fun h => by simpa [sput] using h10 (by simpa [did] using h), fun _ => by simp [sput], fun h => by simpa [sput] using h12 (by simpa [did] using h), fun h => by simpa [sput] using h13 (by simpa [did] using h), fun h => by simpa [sput] using h14 (by simpa [did] using h), hT⟩
    · have g11 := h11 (by simp [hdep])
      unfold OpSteps
      simp [go_sem, evS, g11]
      refine (HBd.out zs zf hzf.out W).mono ?_
      rintro e W' ⟨rfl, rfl⟩
      refine ⟨_, rfl, ?_⟩
      exact ⟨fun h => by simpa [sput] using h0 (by simpa [did] using h), fun h => by simpa [sput] using h1 (by simpa [did] using h), fun h => by simpa [sput] using h2 (by simpa [did] using h), fun h => by simpa [sput] using h3 (by simpa [did] using h), fun h => by simpa [sput] using h4 (by simpa [did] using h), fun h => by simpa [sput] using h5 (by simpa [did] using h), fun h => by simpa [sput] using h6 (by simpa [did] using h), fun h => by simpa [sput] using h7 (by simpa [did] using h), fun h => by simpa [sput] using h8 (by simpa [did] using h), fun h => by simpa [sput] using h9 (by simpa [did] using h), fun h => by simpa [sput] using h10 (by simpa [did] using h), fun h => by simpa [sput] using h11 (by simpa [did] using h), fun _ => by simp [sput], fun h => by simpa [sput] using h13 (by simpa [did] using h), fun h => by simpa [sput] using h14 (by simpa [did] using h), hT⟩
    · have g0 := h0 (by simp [hdep])
      have g12 := h12 (by simp [hdep])
      unfold OpSteps
      simp [go_sem, evS, g0, g12]
      refine (HSc.out W).mono ?_
      rintro e W' ⟨rfl, hb⟩
      refine ⟨_, rfl, ?_⟩
      exact ⟨fun h => by simpa [sput] using h0 (by simpa [did] using h), fun h => by simpa [sput] using h1 (by simpa [did] using h), fun h => by simpa [sput] using h2 (by simpa [did] using h), fun h => by simpa [sput] using h3 (by simpa [did] using h), fun h => by simpa [sput] using h4 (by simpa [did] using h), fun h => by simpa [sput] using h5 (by simpa [did] using h), fun h => by simpa [sput] using h6 (by simpa [did] using h), fun h => by simpa [sput] using h7 (by simpa [did] using h), fun h => by simpa [sput] using h8 (by simpa [did] using h), fun h => by simpa [sput] using h9 (by simpa [did] using h), fun h => by simpa [sput] using h10 (by simpa [did] using h), fun h => by simpa [sput] using h11 (by simpa [did] using h), fun h => by simpa [sput] using h12 (by simpa [did] using h), fun _ => by simp [sput], fun h => by simpa [sput] using h14 (by simpa [did] using h), below_nx hT hb⟩
    · have g13 := h13 (by simp [hdep])
      unfold OpSteps
      simp [go_sem, evS, g13]
      exact ⟨fun h => by simpa [sput] using h0 (by simpa [did] using h), fun h => by simpa [sput] using h1 (by simpa [did] using h), fun h => by simpa [sput] using h2 (by simpa [did] using h), fun h => by simpa [sput] using h3 (by simpa [did] using h), fun h => by simpa [sput] using h4 (by simpa [did] using h), fun h => by simpa [sput] using h5 (by simpa [did] using h), fun h => by simpa [sput] using h6 (by simpa [did] using h), fun h => by simpa [sput] using h7 (by simpa [did] using h), fun h => by simpa [sput] using h8 (by simpa [did] using h), fun h => by simpa [sput] using h9 (by simpa [did] using h), fun h => by simpa [sput] using h10 (by simpa [did] using h), fun h => by simpa [sput] using h11 (by simpa [did] using h), fun h => by simpa [sput] using h12 (by simpa [did] using h), fun h => by simpa [sput] using h13 (by simpa [did] using h), fun _ => by simp [sput], hT⟩
  intro d s W hJ hd
  obtain ⟨h0, h1, h2, h3, h4, h5, h6, h7, h8, h9, h10, h11, h12, h13, h14, hT⟩ := hJ
  have hs := h14 (hd 14 (by decide))
  have HBe := Lib.hid hT
  clear h0 h1 h2 h3 h4 h5 h6 h7 h8 h9 h10 h11 h12 h13 h14 hT hd
  simp [setAll, hs]
  clear hs
  go_wp2_with fail
  go_ret
  exact ⟨rfl, HBe.out⟩
end Go.Proofs.Ytelpdbkkefpjhaa
