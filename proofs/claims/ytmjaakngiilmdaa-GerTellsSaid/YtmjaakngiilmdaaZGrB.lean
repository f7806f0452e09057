/-
Ger: what is handed in for each number; who meets. Conditions: as each says.
-/
import Derived.Test.YtmjaakngiilmdaaZGrA
import Derived.Test.YtmjaakngiilmdaaGe
import Derived.Test.YtmjaakngiilmdaaZMvN
set_option linter.unusedVariables false
set_option linter.unusedSimpArgs false
set_option linter.unnecessarySimpa false
namespace Go.Proofs.Ytmjaakngiilmdaa
open Go.RowKit
attribute [local go_sem ↓] Go.wp_at_zero Go.wp_at_succ

theorem gr_wds {l : List Nat} (h : Wds l) (k : Nat) : l.getD k 0 < 18446744073709551616 := by
  rcases Nat.lt_or_ge k l.length with h1 | h1
  · rw [getD_of_lt h1]; exact h.at_ k h1
  · rw [getD_of_le h1]; omega
theorem grat_one (b x0 n c : Nat) (o K i k v : Nat) (w : World) (hc : w.cell? ⟨b, x0 + (o + k * i), none⟩ = some (.float .f64 v)) (hn : n < 1048576) (hP : o + k * i < n) :
    Calls Try.prog 51 #[vec (some ⟨b, x0, none⟩) n c o K i, .int .i64 k] w fun e w' => e = .returned (.float .f64 v) ∧ Below w.heap.size w w' := by
  have HB := Lib.hid ((Below.refl w.heap.size w).alloc (Nat.le_refl _) (.cells #[.slice (some ⟨b, x0, none⟩) n c, .int .i64 o, .int .i64 K, .int .i64 i] 32))
  have hcell := cell_below hc HB.out
  obtain ⟨a, ha⟩ : ∃ a, k * i = a := ⟨_, rfl⟩
  obtain ⟨P, hPd⟩ : ∃ P, o + k * i = P := ⟨_, rfl⟩
  have e1 : ((k : Int) * (i : Int)) = (a : Int) := by rw [← ha]; simp
  have e2 : (o : Int) + (a : Int) = (P : Int) := by rw [← hPd, ha]; simp
  have HW := Lib.hid (wrap3 (o := o) (a := a) (P := P) (by rw [← hPd]; omega) (by rw [← ha, hPd]))
  rw [hPd] at hcell hP
  have b1 : (P : Int) < (n : Int) := by omega
  have b0 : (0 : Int) ≤ (P : Int) := by omega
  clear hc ha hPd hP
  obtain ⟨u1, u2, u3, u4⟩ := HW.out
  unfold vec
  go_enter Try.func51, Try.ntmps51
  go_wp2_with fail
  go_ret
  exact ⟨rfl, HB.out⟩

theorem grger_enters : Enters Try.prog 50 := enters_of Try.func50 (by kernel_rfl) rfl

set_option maxRecDepth 100000 in
set_option maxHeartbeats 1000000 in
/-- What Ger does to a number. -/
theorem grger_one (a x y z i j pa px py bx x0 nx cx ox Kx ix by0 y0 ny cy oy Ky iy : Nat) (w : World) (ha : w.cell? ⟨pa, 0, none⟩ = some (.float .f64 a)) (hx : Blk w px 32 #[.slice (some ⟨bx, x0, none⟩) nx cx, .int .i64 ox, .int .i64 Kx, .int .i64 ix]) (hy : Blk w py 32 #[.slice (some ⟨by0, y0, none⟩) ny cy, .int .i64 oy, .int .i64 Ky, .int .i64 iy])
    (hcx : w.cell? ⟨bx, x0 + (ox + i * ix), none⟩ = some (.float .f64 x)) (hcy : w.cell? ⟨by0, y0 + (oy + j * iy), none⟩ = some (.float .f64 y)) (hPx : ox + i * ix < nx) (hPy : oy + j * iy < ny) (hnx : nx < 1048576) (hny : ny < 1048576) :
    Calls Try.prog 50 #[.int .i64 (i : Int), .int .i64 (j : Int), .float .f64 z, .pointer (some ⟨pa, 0, none⟩), .pointer (some ⟨py, 0, none⟩), .pointer (some ⟨px, 0, none⟩)] w fun e w' => ∃ t p r, e = .returned (.float .f64 r) ∧ Comes .mul a y t ∧ Comes .mul t x p ∧ Comes .add z p r ∧ Below w.heap.size w w' := by
  have HPx := Lib.hid (fun W (h : W.cell? ⟨bx, x0 + (ox + i * ix), none⟩ = some (.float .f64 x)) => grat_one bx x0 nx cx ox Kx ix i x W h hnx hPx)
  have HPy := Lib.hid (fun W (h : W.cell? ⟨by0, y0 + (oy + j * iy), none⟩ = some (.float .f64 y)) => grat_one by0 y0 ny cy oy Ky iy j y W h hny hPy)
  unfold vec at HPx HPy
  have HA := Lib.hid ha
  have HX := Lib.hid hx
  have HY := Lib.hid hy
  have HCx := Lib.hid hcx
  have HCy := Lib.hid hcy
  clear ha hx hy hcx hcy hPx hPy hnx hny
  go_enter Try.func50, Try.ntmps50
  go_wp2_with fail
  refine wp_region_inv [11, 12, 13, 14, 15, 10] (fun d s W => (d 0 = true → s 11 = .float .f64 a) ∧ (d 1 = true → s 12 = .agg #[.slice (some ⟨by0, y0, none⟩) ny cy, .int .i64 (oy : Int), .int .i64 (Ky : Int), .int .i64 (iy : Int)]) ∧ (d 2 = true → s 13 = .int .i64 (j : Int)) ∧ (d 3 = true → s 14 = .float .f64 y) ∧ (d 4 = true → ∃ t, s 15 = .float .f64 t ∧ Comes .mul a y t) ∧ (d 5 = true → ∃ t, s 10 = .float .f64 t ∧ Comes .mul a y t) ∧ Below w.heap.size w W)
    rfl (by kernel_rfl) ?_ ?_ ?_
  · exact ⟨by simp, by simp, by simp, by simp, by simp, by simp, (Below.refl _ _).drew⟩
  · refine ⟨?_, ?_, ?_, ?_, ?_, ?_, trivial⟩
    all_goals
      intro d s W hJ hfr hd hdep
      simp only [List.mem_cons, forall_eq_or_imp, List.not_mem_nil, false_implies, implies_true, and_true, Region.binds] at hdep
      have f1 := hfr 1 (by decide)
      have f3 := hfr 3 (by decide)
      have f4 := hfr 4 (by decide)
      simp at f1 f3 f4 hdep
      obtain ⟨h0, h1, h2, h3, h4, h5, hT⟩ := hJ
    · unfold OpSteps
      have pc := cell_below HA.out hT
      simp [go_sem, evS, f3, pc]
      exact ⟨fun _ => by simp [sput], fun h => by simpa [sput] using h1 (by simpa [did] using h), fun h => by simpa [sput] using h2 (by simpa [did] using h), fun h => by simpa [sput] using h3 (by simpa [did] using h), fun h => by simpa [sput] using h4 (by simpa [did] using h), fun h => by simpa [sput] using h5 (by simpa [did] using h), hT⟩
    · unfold OpSteps
      obtain ⟨p0, p1, p2, p3⟩ := cells4w (HY.out.below hT HY.out.lt)
      simp [go_sem, evS, f4, p0, p1, p2, p3]
      exact ⟨fun h => by simpa [sput] using h0 (by simpa [did] using h), fun _ => by simp [sput], fun h => by simpa [sput] using h2 (by simpa [did] using h), fun h => by simpa [sput] using h3 (by simpa [did] using h), fun h => by simpa [sput] using h4 (by simpa [did] using h), fun h => by simpa [sput] using h5 (by simpa [did] using h), hT⟩
    · unfold OpSteps
      simp [go_sem, evS, f1]
      exact ⟨fun h => by simpa [sput] using h0 (by simpa [did] using h), fun h => by simpa [sput] using h1 (by simpa [did] using h), fun _ => by simp [sput], fun h => by simpa [sput] using h3 (by simpa [did] using h), fun h => by simpa [sput] using h4 (by simpa [did] using h), fun h => by simpa [sput] using h5 (by simpa [did] using h), hT⟩
    · have g1 := h1 (by simp [hdep])
      have g2 := h2 (by simp [hdep])
      unfold OpSteps
      simp [go_sem, evS, g1, g2]
      refine (HPy.out W (cell_below HCy.out hT)).mono ?_
      rintro e W' ⟨rfl, hb⟩
      refine ⟨_, rfl, ?_⟩
      exact ⟨fun h => by simpa [sput] using h0 (by simpa [did] using h), fun h => by simpa [sput] using h1 (by simpa [did] using h), fun h => by simpa [sput] using h2 (by simpa [did] using h), fun _ => by simp [sput], fun h => by simpa [sput] using h4 (by simpa [did] using h), fun h => by simpa [sput] using h5 (by simpa [did] using h), below_nx hT hb⟩
    · have g0 := h0 (by simp [hdep])
      have g3 := h3 (by simp [hdep])
      unfold OpSteps
      simp [go_sem, evS, g0, g3]
      exact ⟨fun h => by simpa [sput] using h0 (by simpa [did] using h), fun h => by simpa [sput] using h1 (by simpa [did] using h), fun h => by simpa [sput] using h2 (by simpa [did] using h), fun h => by simpa [sput] using h3 (by simpa [did] using h), fun _ => ⟨fres .mul W a y, by simp [sput], fres_comes _ _ _ _⟩, fun h => by simpa [sput] using h5 (by simpa [did] using h), below_drewN hT _⟩
    · have g4 := h4 (by simp [hdep])
      unfold OpSteps
      obtain ⟨t, gt, ht⟩ := g4
      simp [go_sem, evS, gt]
      exact ⟨fun h => by simpa [sput] using h0 (by simpa [did] using h), fun h => by simpa [sput] using h1 (by simpa [did] using h), fun h => by simpa [sput] using h2 (by simpa [did] using h), fun h => by simpa [sput] using h3 (by simpa [did] using h), fun h => by simpa [sput] using h4 (by simpa [did] using h), fun _ => ⟨t, by simp [sput], ht⟩, hT⟩
  intro d s W hJ hd
  obtain ⟨h0, h1, h2, h3, h4, h5, hT⟩ := hJ
  obtain ⟨t, hs, ht⟩ := h5 (hd 5 (by decide))
  have HT := Lib.hid ht
  have HBe := Lib.hid hT
  clear h0 h1 h2 h3 h4 h5 hT hd ht
  simp [setAll, hs]
  clear hs
  generalize s 11 = s11
  generalize s 12 = s12
  generalize s 13 = s13
  generalize s 14 = s14
  generalize s 15 = s15
  obtain ⟨c0, c1, c2, c3⟩ := cells4w (HX.out.below HBe.out HX.out.lt)
  go_wp2_with fail
  refine (HPx.out _ (cell_below HCx.out HBe.out)).mono ?_
  rintro e w2 ⟨rfl, hb⟩
  have HB2 := Lib.hid (below_nx HBe.out hb)
  clear hb c0 c1 c2 c3
  go_wp2_with fail
  go_ret
  exact ⟨_, _, _, rfl, HT.out, fres_comes _ _ _ _, fres_comes _ _ _ _, below_drewN HB2.out _⟩


theorem grmeets_any (A : Option Addr) (n c : Nat) (off k inc : Int) (A' : Option Addr) (n' c' : Nat) (off' r' k' ld' : Int) (b : Bool) (w : World)
    (hM : ∀ W, Below w.heap.size w W → Calls Try.prog 71 #[mat A n c off 1 k inc, mat A' n' c' off' r' k' ld'] W fun e w' => e = .returned (.bool b) ∧ Below W.heap.size W w') :
    Calls Try.prog 48 #[vec A n c off k inc, mat A' n' c' off' r' k' ld'] w fun e w' => e = .returned (.bool b) ∧ Below w.heap.size w w' := by
  have HM := Lib.hid hM
  clear hM
  unfold vec mat at *
  go_enter Try.func48, Try.ntmps48
  have HB := Lib.hid (((Below.refl w.heap.size w).alloc (Nat.le_refl _) (.cells #[.slice A n c, .int .i64 off, .int .i64 k, .int .i64 inc] 32)).alloc (by simp) (.cells #[.slice A' n' c', .int .i64 off', .int .i64 r', .int .i64 k', .int .i64 ld'] 26))
  have HX := Lib.hid ((Blk.new w 32 #[.slice A n c, .int .i64 off, .int .i64 k, .int .i64 inc]).alloc (.cells #[.slice A' n' c', .int .i64 off', .int .i64 r', .int .i64 k', .int .i64 ld'] 26))
  have HY := Lib.hid (Blk.new_ (w.alloc (.cells #[.slice A n c, .int .i64 off, .int .i64 k, .int .i64 inc] 32)) 26 #[.slice A' n' c', .int .i64 off', .int .i64 r', .int .i64 k', .int .i64 ld'] (w.heap.size + 1) (by simp))
  obtain ⟨c0, c1, c2, c3⟩ := cells4w HX.out
  obtain ⟨d0, d1, d2, d3, d4⟩ := cells5 HY.out
  go_wp2_with fail
  refine (HM.out _ HB.out).mono ?_
  rintro e w2 ⟨rfl, hb⟩
  have HB2 := Lib.hid (below_nx HB.out hb)
  clear hb c0 c1 c2 c3 d0 d1 d2 d3 d4
  go_wp2_with fail
  go_ret
  exact ⟨rfl, HB2.out⟩
end Go.Proofs.Ytmjaakngiilmdaa
