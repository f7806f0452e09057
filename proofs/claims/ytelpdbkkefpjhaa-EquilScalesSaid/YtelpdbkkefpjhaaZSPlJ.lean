/-
view.At of any matrix; fill; Pack with an error. Conditions: as each says.
-/
import Derived.Test.YtelpdbkkefpjhaaWSw
set_option linter.unusedVariables false
set_option linter.unusedSimpArgs false
set_option linter.unnecessarySimpa false
namespace Go.Proofs.Ytelpdbkkefpjhaa
open Go.RowKit
attribute [local go_sem ↓] Go.wp_at_zero Go.wp_at_succ

set_option maxRecDepth 100000 in
set_option maxHeartbeats 2000000 in
theorem vat_in (A : Option Addr) (c n : Nat) (l : List Nat) (o R C L i j : Nat) (w : World) (hA : Row w A (f64s l)) (hl : l.length = n) (hn : n < 1048576) (hLI : I64 L) (hRb : R < 1048576) (hCb : C < 1048576) (hL1 : 1 ≤ L) (hRL : R ≤ L) (hmr : R = 0 ∨ C = 0 ∨ o + (C - 1) * L + (R - 1) < n) (hi : i < R) (hj : j < C) :
    Calls Try.prog 41 #[mat A n c o R C L, .int .i64 i, .int .i64 j] w fun e w' => e = .returned (.float .f64 (l.getD (o + i + j * L) 0)) ∧ Below w.heap.size w w' := by
  have hP := gr_lt hmr hi hj
  have HH := Lib.hid (fun W => holds_any A n c o R C L i j W (by omega) (by unfold I64; omega) (by unfold I64; omega) (by unfold I64; omega) hLI)
  have ht : thereB n (o : Int) (R : Int) (C : Int) (L : Int) (i : Int) (j : Int) = true := by
    unfold thereB
    rw [mat_right hL1 hRL hmr]
    simp
    omega
  rw [ht] at HH
  have hjl : I64 ((j : Int) * (L : Int)) := by
    have e : (j : Int) * (L : Int) = ((j * L : Nat) : Int) := by simp
    rw [e]; unfold I64; omega
  have HP := Lib.hid (fun W => place_any A n c o R C L i j ((o + i + j * L : Nat) : Int) W (by simp) (by unfold I64; omega) hjl (by unfold I64; omega))
  have hPl : o + i + j * L < l.length := by omega
  obtain ⟨b, x, rfl, hblt, hcell0⟩ := hA.at_ (f64s_get l _ hPl)
  rw [← getD_of_lt hPl] at hcell0
  have HCe0 := Lib.hid hcell0
  obtain ⟨v, hv⟩ : ∃ v, l.getD (o + i + j * L) 0 = v := ⟨_, rfl⟩
  rw [hv] at HCe0
  rw [hv]
  obtain ⟨P, hPd⟩ : ∃ P, o + i + j * L = P := ⟨_, rfl⟩
  rw [hPd] at HCe0 HP hP
  have b2 := hP
  clear hv hPd hP hPl hjl hA hl hn hLI hRb hCb hL1 hRL hmr hi hj ht hcell0 hblt
  unfold mat at *
  go_enter Try.func41, Try.ntmps41
  have HZ0 := Lib.hid (Blk.new w 24 #[.slice (some ⟨b, x, none⟩) n c, .int .i64 o, .int .i64 R, .int .i64 C, .int .i64 L])
  have HB0 := Lib.hid ((Below.refl w.heap.size w).alloc (Nat.le_refl _) (.cells #[.slice (some ⟨b, x, none⟩) n c, .int .i64 o, .int .i64 R, .int .i64 C, .int .i64 L] 24))
  obtain ⟨c0, c1, c2, c3, c4⟩ := cells5 HZ0.out
  go_wp2_with fail
  refine (HH.out _).mono ?_
  rintro e w1 ⟨rfl, hb⟩
  have HZ1 := Lib.hid (HZ0.out.nxt hb)
  have HB1 := Lib.hid (below_nx HB0.out hb)
  have HCe := Lib.hid (cell_below HCe0.out HB1.out)
  clear hb c0 c1 c2 c3 c4
  obtain ⟨c0, c1, c2, c3, c4⟩ := cells5 HZ1.out
  go_wp2_with fail
  clear c0 c1 c2 c3 c4
  refine wp_region_inv [12, 13, 14, 15, 16, 17, 18, 19, 6] (fun d s W => (d 0 = true → s 12 = .pointer (some ⟨w.heap.size, 0, none⟩)) ∧ (d 1 = true → s 13 = .slice (some ⟨b, x, none⟩) n c) ∧ (d 2 = true → s 14 = .agg #[.slice (some ⟨b, x, none⟩) n c, .int .i64 (o : Int), .int .i64 (R : Int), .int .i64 (C : Int), .int .i64 (L : Int)]) ∧ (d 3 = true → s 15 = .int .i64 (i : Int)) ∧ (d 4 = true → s 16 = .int .i64 (j : Int)) ∧ (d 5 = true → s 17 = .int .i64 (P : Int)) ∧ (d 6 = true → s 18 = .pointer (some ⟨b, x + P, none⟩)) ∧ (d 7 = true → s 19 = .float .f64 v) ∧ (d 8 = true → s 6 = .float .f64 v) ∧ Below w1.heap.size w1 W)
    rfl (by kernel_rfl) ?_ ?_ ?_
  · exact ⟨by simp, by simp, by simp, by simp, by simp, by simp, by simp, by simp, by simp, (Below.refl _ _).drew⟩
  · refine ⟨?_, ?_, ?_, ?_, ?_, ?_, ?_, ?_, ?_, trivial⟩
    all_goals
      intro d s W hJ hfr hd hdep
      simp only [List.mem_cons, forall_eq_or_imp, List.not_mem_nil, false_implies, implies_true, and_true, Region.binds] at hdep
      have f1 := hfr 1 (by decide)
      have f2 := hfr 2 (by decide)
      have f3 := hfr 3 (by decide)
      simp at f1 f2 f3 hdep
      obtain ⟨h0, h1, h2, h3, h4, h5, h6, h7, h8, hT⟩ := hJ
    · unfold OpSteps
      simp [go_sem, evS, f3]
      exact ⟨fun _ => by simp [sput], fun h => by simpa [sput] using h1 (by simpa [did] using h), fun h => by simpa [sput] using h2 (by simpa [did] using h), fun h => by simpa [sput] using h3 (by simpa [did] using h), fun h => by simpa [sput] using h4 (by simpa [did] using h), fun h => by simpa [sput] using h5 (by simpa [did] using h), fun h => by simpa [sput] using h6 (by simpa [did] using h), fun h => by simpa [sput] using h7 (by simpa [did] using h), fun h => by simpa [sput] using h8 (by simpa [did] using h), hT⟩
    · have g0 := h0 (by simp [hdep])
      unfold OpSteps
      obtain ⟨p0, p1, p2, p3, p4⟩ := cells5 (HZ1.out.below hT HZ1.out.lt)
      simp [go_sem, evS, g0, p0, p1, p2, p3, p4]
      exact ⟨fun h => by simpa [sput] using h0 (by simpa [did] using h), fun _ => by simp [sput], fun h => by simpa [sput] using h2 (by simpa [did] using h), fun h => by simpa [sput] using h3 (by simpa [did] using h), fun h => by simpa [sput] using h4 (by simpa [did] using h), fun h => by simpa [sput] using h5 (by simpa [did] using h), fun h => by simpa [sput] using h6 (by simpa [did] using h), fun h => by simpa [sput] using h7 (by simpa [did] using h), fun h => by simpa [sput] using h8 (by simpa [did] using h), hT⟩
    · unfold OpSteps
      obtain ⟨p0, p1, p2, p3, p4⟩ := cells5 (HZ1.out.below hT HZ1.out.lt)
      simp [go_sem, evS, f3, p0, p1, p2, p3, p4]
      exact ⟨fun h => by simpa [sput] using h0 (by simpa [did] using h), fun h => by simpa [sput] using h1 (by simpa [did] using h), fun _ => by simp [sput], fun h => by simpa [sput] using h3 (by simpa [did] using h), fun h => by simpa [sput] using h4 (by simpa [did] using h), fun h => by simpa [sput] using h5 (by simpa [did] using h), fun h => by simpa [sput] using h6 (by simpa [did] using h), fun h => by simpa [sput] using h7 (by simpa [did] using h), fun h => by simpa [sput] using h8 (by simpa [did] using h), hT⟩
    · unfold OpSteps
      simp [go_sem, evS, f1]
      exact ⟨fun h => by simpa [sput] using h0 (by simpa [did] using h), fun h => by simpa [sput] using h1 (by simpa [did] using h), fun h => by simpa [sput] using h2 (by simpa [did] using h), fun _ => by simp [sput], fun h => by simpa [sput] using h4 (by simpa [did] using h), fun h => by simpa [sput] using h5 (by simpa [did] using h), fun h => by simpa [sput] using h6 (by simpa [did] using h), fun h => by simpa [sput] using h7 (by simpa [did] using h), fun h => by simpa [sput] using h8 (by simpa [did] using h), hT⟩
    · unfold OpSteps
      simp [go_sem, evS, f2]
      exact ⟨fun h => by simpa [sput] using h0 (by simpa [did] using h), fun h => by simpa [sput] using h1 (by simpa [did] using h), fun h => by simpa [sput] using h2 (by simpa [did] using h), fun h => by simpa [sput] using h3 (by simpa [did] using h), fun _ => by simp [sput], fun h => by simpa [sput] using h5 (by simpa [did] using h), fun h => by simpa [sput] using h6 (by simpa [did] using h), fun h => by simpa [sput] using h7 (by simpa [did] using h), fun h => by simpa [sput] using h8 (by simpa [did] using h), hT⟩
    · have g2 := h2 (by simp [hdep])
      have g3 := h3 (by simp [hdep])
      have g4 := h4 (by simp [hdep])
      unfold OpSteps
      simp [go_sem, evS, g2, g3, g4]
      refine (HP.out W).mono ?_
      rintro e W' ⟨rfl, hb⟩
      refine ⟨_, rfl, ?_⟩
      exact ⟨fun h => by simpa [sput] using h0 (by simpa [did] using h), fun h => by simpa [sput] using h1 (by simpa [did] using h), fun h => by simpa [sput] using h2 (by simpa [did] using h), fun h => by simpa [sput] using h3 (by simpa [did] using h), fun h => by simpa [sput] using h4 (by simpa [did] using h), fun _ => by simp [sput], fun h => by simpa [sput] using h6 (by simpa [did] using h), fun h => by simpa [sput] using h7 (by simpa [did] using h), fun h => by simpa [sput] using h8 (by simpa [did] using h), below_nx hT hb⟩
    · have g1 := h1 (by simp [hdep])
      have g5 := h5 (by simp [hdep])
      unfold OpSteps
      simp [go_sem, evS, g1, g5, b2]
      exact ⟨fun h => by simpa [sput] using h0 (by simpa [did] using h), fun h => by simpa [sput] using h1 (by simpa [did] using h), fun h => by simpa [sput] using h2 (by simpa [did] using h), fun h => by simpa [sput] using h3 (by simpa [did] using h), fun h => by simpa [sput] using h4 (by simpa [did] using h), fun h => by simpa [sput] using h5 (by simpa [did] using h), fun _ => by simp [sput], fun h => by simpa [sput] using h7 (by simpa [did] using h), fun h => by simpa [sput] using h8 (by simpa [did] using h), hT⟩
    · have g6 := h6 (by simp [hdep])
      unfold OpSteps
      have pc := cell_below HCe.out hT
      simp [go_sem, evS, g6, pc]
      exact ⟨fun h => by simpa [sput] using h0 (by simpa [did] using h), fun h => by simpa [sput] using h1 (by simpa [did] using h), fun h => by simpa [sput] using h2 (by simpa [did] using h), fun h => by simpa [sput] using h3 (by simpa [did] using h), fun h => by simpa [sput] using h4 (by simpa [did] using h), fun h => by simpa [sput] using h5 (by simpa [did] using h), fun h => by simpa [sput] using h6 (by simpa [did] using h), fun _ => by simp [sput], fun h => by simpa [sput] using h8 (by simpa [did] using h), hT⟩
    · have g7 := h7 (by simp [hdep])
      unfold OpSteps
      simp [go_sem, evS, g7]
      exact ⟨fun h => by simpa [sput] using h0 (by simpa [did] using h), fun h => by simpa [sput] using h1 (by simpa [did] using h), fun h => by simpa [sput] using h2 (by simpa [did] using h), fun h => by simpa [sput] using h3 (by simpa [did] using h), fun h => by simpa [sput] using h4 (by simpa [did] using h), fun h => by simpa [sput] using h5 (by simpa [did] using h), fun h => by simpa [sput] using h6 (by simpa [did] using h), fun h => by simpa [sput] using h7 (by simpa [did] using h), fun _ => by simp [sput], hT⟩
  intro d s W hJ hd
  obtain ⟨h0, h1, h2, h3, h4, h5, h6, h7, h8, hT⟩ := hJ
  have hs := h8 (hd 8 (by decide))
  have HBe := Lib.hid (below_nx HB1.out hT)
  clear h0 h1 h2 h3 h4 h5 h6 h7 h8 hT hd
  simp [setAll, hs]
  clear hs
  go_wp2_with fail
  go_ret
  exact ⟨rfl, HBe.out⟩
end Go.Proofs.Ytelpdbkkefpjhaa
