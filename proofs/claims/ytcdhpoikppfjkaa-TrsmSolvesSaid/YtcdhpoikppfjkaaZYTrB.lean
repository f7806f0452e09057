/-
Trsv: a triangle's pieces. Conditions: as each says.
-/
import Derived.Test.YtcdhpoikppfjkaaWaad
import Derived.Test.YtcdhpoikppfjkaaWaai
import Derived.Test.YtcdhpoikppfjkaaWaaj
import Derived.Test.YtcdhpoikppfjkaaWaaf
import Derived.Test.YtcdhpoikppfjkaaWaah
import Derived.Test.YtcdhpoikppfjkaaWaag
set_option linter.unusedVariables false
set_option linter.unusedSimpArgs false
set_option linter.unnecessarySimpa false
namespace Go.Proofs.Ytcdhpoikppfjkaa
open Go.RowKit
attribute [local go_sem ↓] Go.wp_at_zero Go.wp_at_succ

theorem cells6 {w : World} {g : Nat} {t : TypeId} {v0 v1 v2 v3 v4 v5 : Value} (h : Blk w g t #[v0, v1, v2, v3, v4, v5]) :
    w.cell? ⟨g, 0, none⟩ = some v0 ∧ w.cell? ⟨g, 1, none⟩ = some v1 ∧ w.cell? ⟨g, 2, none⟩ = some v2 ∧ w.cell? ⟨g, 3, none⟩ = some v3 ∧ w.cell? ⟨g, 4, none⟩ = some v4 ∧ w.cell? ⟨g, 5, none⟩ = some v5 :=
  ⟨h.cell 0, h.cell 1, h.cell 2, h.cell 3, h.cell 4, h.cell 5⟩
/-- A triangle. -/
def tri (kd : Int) (A : Option Addr) (n c : Nat) (o r k ld : Int) : Value := .agg #[.int .i64 kd, .slice A n c, .int .i64 o, .int .i64 r, .int .i64 k, .int .i64 ld]
/-- A matrix' numbers stand where they belong. -/
def MxC (w : World) (A : Option Addr) (o R L : Nat) (f : Nat → Nat → Nat) : Prop := ∀ i, i < R → ∀ k, k < R → ∃ b x, A = some ⟨b, x, none⟩ ∧ w.cell? ⟨b, x + (o + i + k * L), none⟩ = some (.float .f64 (f i k))
theorem MxC.below {w w' : World} {A : Option Addr} {o R L : Nat} {f : Nat → Nat → Nat} (h : MxC w A o R L f) (hb : Below w.heap.size w w') : MxC w' A o R L f := fun i hi k hk => by
  obtain ⟨b, x, e, hc⟩ := h i hi k hk
  exact ⟨b, x, e, cell_below hc hb⟩
/-- One number has been stored. -/
def StoredR (g P : Nat) (R : Nat → Prop) (wr W : World) : Prop := ∃ W' r, Below wr.heap.size wr W' ∧ W = W'.setCell ⟨g, P, none⟩ (.float .f64 r) ∧ R r
theorem frz_belowr {W W' : World} {b o : Nat} (h : W.frozen? ⟨b, o, none⟩ = false) (hlt : b < W.heap.size) (hb : Below W.heap.size W W') : W'.frozen? ⟨b, o, none⟩ = false := (hb.frozen (p := ⟨b, o, none⟩) hlt).trans h
theorem tr_lt {o R C L n i j : Nat} (hr : R = 0 ∨ C = 0 ∨ o + (C - 1) * L + (R - 1) < n) (hi : i < R) (hj : j < C) : o + i + j * L < n := by
  have h1 : j * L ≤ (C - 1) * L := Nat.mul_le_mul_right _ (by omega)
  omega
theorem trplace_any (A : Option Addr) (n c : Nat) (o K i k : Nat) (w : World) (hP : o + k * i < 1048576) :
    Calls Try.prog 72 #[vec A n c o K i, .int .i64 k] w fun e w' => e = .returned (.int .i64 ((o + k * i : Nat) : Int)) ∧ Below w.heap.size w w' := by
  have HB := Lib.hid ((Below.refl w.heap.size w).alloc (Nat.le_refl _) (.cells #[.slice A n c, .int .i64 o, .int .i64 K, .int .i64 i] 66))
  obtain ⟨a, ha⟩ : ∃ a, k * i = a := ⟨_, rfl⟩
  obtain ⟨P, hPd⟩ : ∃ P, o + k * i = P := ⟨_, rfl⟩
  have e1 : ((k : Int) * (i : Int)) = (a : Int) := by rw [← ha]; simp
  have e2 : (o : Int) + (a : Int) = (P : Int) := by rw [← hPd, ha]; simp
  have HW := Lib.hid (wrap3 (o := o) (a := a) (P := P) (by rw [← hPd]; omega) (by rw [← ha, hPd]))
  rw [hPd] at hP ⊢
  clear ha hPd hP
  obtain ⟨u1, u2, u3, u4⟩ := HW.out
  unfold vec
  go_enter Try.func72, Try.ntmps72
  go_wp2_with fail
  go_ret
  exact ⟨rfl, HB.out⟩

theorem trmeets_any (A : Option Addr) (n c : Nat) (off k inc : Int) (A' : Option Addr) (n' c' : Nat) (off' r' k' ld' : Int) (b : Bool) (w : World)
    (hM : ∀ W, Below w.heap.size w W → Calls Try.prog 30 #[mat A n c off 1 k inc, mat A' n' c' off' r' k' ld'] W fun e w' => e = .returned (.bool b) ∧ Below W.heap.size W w') :
    Calls Try.prog 50 #[vec A n c off k inc, mat A' n' c' off' r' k' ld'] w fun e w' => e = .returned (.bool b) ∧ Below w.heap.size w w' := by
  have HM := Lib.hid hM
  clear hM
  unfold vec mat at *
  go_enter Try.func50, Try.ntmps50
  have HB := Lib.hid (((Below.refl w.heap.size w).alloc (Nat.le_refl _) (.cells #[.slice A n c, .int .i64 off, .int .i64 k, .int .i64 inc] 66)).alloc (by simp) (.cells #[.slice A' n' c', .int .i64 off', .int .i64 r', .int .i64 k', .int .i64 ld'] 24))
  have HX := Lib.hid ((Blk.new w 66 #[.slice A n c, .int .i64 off, .int .i64 k, .int .i64 inc]).alloc (.cells #[.slice A' n' c', .int .i64 off', .int .i64 r', .int .i64 k', .int .i64 ld'] 24))
  have HY := Lib.hid (Blk.new_ (w.alloc (.cells #[.slice A n c, .int .i64 off, .int .i64 k, .int .i64 inc] 66)) 24 #[.slice A' n' c', .int .i64 off', .int .i64 r', .int .i64 k', .int .i64 ld'] (w.heap.size + 1) (by simp))
  obtain ⟨c0, c1, c2, c3⟩ := cells4w HX.out
  obtain ⟨d0, d1, d2, d3, d4⟩ := cells5 HY.out
  go_wp2_with fail
  refine (HM.out _ HB.out).mono ?_
  rintro e w2 ⟨rfl, hb⟩
  have HB2 := Lib.hid (below_nx HB.out hb)
  clear hb c0 c1 c2 c3 d0 d1 d2 d3 d4
  go_wp2_with fail
  go_ret
  exact ⟨rfl, HB2.out⟩
/-- Is it one of the kinds? -/
def trK (kd : Int) : Bool := decide (1 ≤ kd) && decide (kd ≤ 4)
theorem trright_any (kd : Int) (A : Option Addr) (n c : Nat) (o r k ld : Int) (w : World) (hn : n < 9223372036854775808) (ho : I64 o) (hr : I64 r) (hk : I64 k) (hi : I64 ld) :
    Calls Try.prog 47 #[tri kd A n c o r k ld] w fun e w' => e = .returned (.bool (trK kd && matB n o r k ld)) ∧ Below w.heap.size w w' := by
  have HG := Lib.hid (fun W => good_any A n c o r k ld W hn ho hr hk hi)
  have HB := Lib.hid ((Below.refl w.heap.size w).alloc (Nat.le_refl _) (.cells #[.int .i64 kd, .slice A n c, .int .i64 o, .int .i64 r, .int .i64 k, .int .i64 ld] 80))
  have HZ := Lib.hid (Blk.new w 80 #[.int .i64 kd, .slice A n c, .int .i64 o, .int .i64 r, .int .i64 k, .int .i64 ld])
  obtain ⟨z0, z1, z2, z3, z4, z5⟩ := cells6 HZ.out
  unfold trK tri
  generalize matB n o r k ld = b at *
  obtain ⟨b1, hb1⟩ : ∃ b1, decide (1 ≤ kd) = b1 := ⟨_, rfl⟩
  obtain ⟨b2, hb2⟩ : ∃ b2, decide (kd ≤ 4) = b2 := ⟨_, rfl⟩
  rw [hb1, hb2]
  clear hn ho hr hk hi
  cases b1
  · go_enter Try.func47, Try.ntmps47
    go_wp2_with fail
    go_ret
    exact ⟨rfl, HB.out⟩
  · cases b2
    · go_enter Try.func47, Try.ntmps47
      go_wp2_with fail
      go_ret
      exact ⟨rfl, HB.out⟩
    · go_enter Try.func47, Try.ntmps47
      go_wp2_with fail
      refine (HG.out _).mono ?_
      rintro e w1 ⟨rfl, hb⟩
      have HB1 := Lib.hid (below_nx HB.out hb)
      clear hb z0 z1 z2 z3 z4 z5
      go_wp2_with fail
      go_ret
      first | exact ⟨rfl, HB1.out⟩ | exact ⟨ret_bool (by simp), HB1.out⟩
theorem trfits_any (kd : Int) (A : Option Addr) (n c : Nat) (o r k ld m : Int) (w : World) :
    Calls Try.prog 49 #[tri kd A n c o r k ld, .int .i64 m] w fun e w' => e = .returned (.bool ((r == m) && (k == m))) ∧ Below w.heap.size w w' := by
  have HB := Lib.hid ((Below.refl w.heap.size w).alloc (Nat.le_refl _) (.cells #[.int .i64 kd, .slice A n c, .int .i64 o, .int .i64 r, .int .i64 k, .int .i64 ld] 80))
  have HZ := Lib.hid (Blk.new w 80 #[.int .i64 kd, .slice A n c, .int .i64 o, .int .i64 r, .int .i64 k, .int .i64 ld])
  obtain ⟨z0, z1, z2, z3, z4, z5⟩ := cells6 HZ.out
  unfold tri
  obtain ⟨b1, hb1⟩ : ∃ b1, (r == m) = b1 := ⟨_, rfl⟩
  obtain ⟨b2, hb2⟩ : ∃ b2, (k == m) = b2 := ⟨_, rfl⟩
  rw [hb1, hb2]
  cases b1
  · go_enter Try.func49, Try.ntmps49
    go_wp2_with fail
    go_ret
    first | exact ⟨rfl, HB.out⟩ | exact ⟨ret_bool (by simp), HB.out⟩
  · go_enter Try.func49, Try.ntmps49
    go_wp2_with fail
    go_ret
    first | exact ⟨rfl, HB.out⟩ | exact ⟨ret_bool (by simp), HB.out⟩

set_option maxRecDepth 100000 in
set_option maxHeartbeats 2000000 in
/-- The number of a matrix, by its cell. -/
theorem vat_cell (b x0 n c o R C L i j v : Nat) (w : World) (hc : w.cell? ⟨b, x0 + (o + i + j * L), none⟩ = some (.float .f64 v)) (hn : n < 1048576) (hLI : I64 L) (hRb : R < 1048576) (hCb : C < 1048576) (hL1 : 1 ≤ L) (hRL : R ≤ L) (hmr : R = 0 ∨ C = 0 ∨ o + (C - 1) * L + (R - 1) < n) (hi : i < R) (hj : j < C) :
    Calls Try.prog 45 #[mat (some ⟨b, x0, none⟩) n c o R C L, .int .i64 i, .int .i64 j] w fun e w' => e = .returned (.float .f64 v) ∧ Below w.heap.size w w' := by
  have hP := tr_lt hmr hi hj
  have HH := Lib.hid (fun W => holds_any (some ⟨b, x0, none⟩) n c o R C L i j W (by omega) (by unfold I64; omega) (by unfold I64; omega) (by unfold I64; omega) hLI)
  have ht : thereB n (o : Int) (R : Int) (C : Int) (L : Int) (i : Int) (j : Int) = true := by
    unfold thereB
    rw [mat_right hL1 hRL hmr]
    simp
    omega
  rw [ht] at HH
  have hjl : I64 ((j : Int) * (L : Int)) := by
    have e : (j : Int) * (L : Int) = ((j * L : Nat) : Int) := by simp
    rw [e]; unfold I64; omega
  have HP := Lib.hid (fun W => place_any (some ⟨b, x0, none⟩) n c o R C L i j ((o + i + j * L : Nat) : Int) W (by simp) (by unfold I64; omega) hjl (by unfold I64; omega))
  have HCe0 := Lib.hid hc
  obtain ⟨P, hPd⟩ : ∃ P, o + i + j * L = P := ⟨_, rfl⟩
  rw [hPd] at HCe0 HP hP
  have b2 := hP
  clear hPd hP hjl hc hn hLI hRb hCb hL1 hRL hmr hi hj ht
  unfold mat at *
  go_enter Try.func45, Try.ntmps45
  have HZ0 := Lib.hid (Blk.new w 24 #[.slice (some ⟨b, x0, none⟩) n c, .int .i64 o, .int .i64 R, .int .i64 C, .int .i64 L])
  have HB0 := Lib.hid ((Below.refl w.heap.size w).alloc (Nat.le_refl _) (.cells #[.slice (some ⟨b, x0, none⟩) n c, .int .i64 o, .int .i64 R, .int .i64 C, .int .i64 L] 24))
  obtain ⟨c0, c1, c2, c3, c4⟩ := cells5 HZ0.out
  go_wp2_with fail
  refine (HH.out _).mono ?_
  rintro e w1 ⟨rfl, hb⟩
  have HZ1 := Lib.hid (HZ0.out.nxt hb)
  have HB1 := Lib.hid (below_nx HB0.out hb)
  have HCe := Lib.hid (cell_below HCe0.out HB1.out)
  clear hb c0 c1 c2 c3 c4
  obtain ⟨c0, c1, c2, c3, c4⟩ := cells5 HZ1.out
  go_wp2_with fail
  clear c0 c1 c2 c3 c4
  refine wp_region_inv [12, 13, 14, 15, 16, 17, 18, 19, 6] (fun d s W => (d 0 = true → s 12 = .pointer (some ⟨w.heap.size, 0, none⟩)) ∧ (d 1 = true → s 13 = .slice (some ⟨b, x0, none⟩) n c) ∧ (d 2 = true → s 14 = .agg #[.slice (some ⟨b, x0, none⟩) n c, .int .i64 (o : Int), .int .i64 (R : Int), .int .i64 (C : Int), .int .i64 (L : Int)]) ∧ (d 3 = true → s 15 = .int .i64 (i : Int)) ∧ (d 4 = true → s 16 = .int .i64 (j : Int)) ∧ (d 5 = true → s 17 = .int .i64 (P : Int)) ∧ (d 6 = true → s 18 = .pointer (some ⟨b, x0 + P, none⟩)) ∧ (d 7 = true → s 19 = .float .f64 v) ∧ (d 8 = true → s 6 = .float .f64 v) ∧ Below w1.heap.size w1 W)
    rfl (by kernel_rfl) ?_ ?_ ?_
  · exact ⟨by simp, by simp, by simp, by simp, by simp, by simp, by simp, by simp, by simp, (Below.refl _ _).drew⟩
  · refine ⟨?_, ?_, ?_, ?_, ?_, ?_, ?_, ?_, ?_, trivial⟩
    all_goals
      intro d s W hJ hfr hd hdep
      simp only [List.mem_cons, forall_eq_or_imp, List.not_mem_nil, false_implies, implies_true, and_true, Region.binds] at hdep
      have f1 := hfr 1 (by decide)
      have f2 := hfr 2 (by decide)
      have f3 := hfr 3 (by decide)
      simp at f1 f2 f3 hdep
      obtain ⟨h0, h1, h2, h3, h4, h5, h6, h7, h8, hT⟩ := hJ
    · unfold OpSteps
      simp [go_sem, evS, f3]
      exact ⟨fun _ => by simp [sput], fun h => by simpa [sput] using h1 (by simpa [did] using h), fun h => by simpa [sput] using h2 (by simpa [did] using h), fun h => by simpa [sput] using h3 (by simpa [did] using h), fun h => by simpa [sput] using h4 (by simpa [did] using h), fun h => by simpa [sput] using h5 (by simpa [did] using h), fun h => by simpa [sput] using h6 (by simpa [did] using h), fun h => by simpa [sput] using h7 (by simpa [did] using h), fun h => by simpa [sput] using h8 (by simpa [did] using h), hT⟩
    · have g0 := h0 (by simp [hdep])
      unfold OpSteps
      obtain ⟨p0, p1, p2, p3, p4⟩ := cells5 (HZ1.out.below hT HZ1.out.lt)
      simp [go_sem, evS, g0, p0, p1, p2, p3, p4]
      exact ⟨fun h => by simpa [sput] using h0 (by simpa [did] using h), fun _ => by simp [sput], fun h => by simpa [sput] using h2 (by simpa [did] using h), fun h => by simpa [sput] using h3 (by simpa [did] using h), fun h => by simpa [sput] using h4 (by simpa [did] using h), fun h => by simpa [sput] using h5 (by simpa [did] using h), fun h => by simpa [sput] using h6 (by simpa [did] using h), fun h => by simpa [sput] using h7 (by simpa [did] using h), fun h => by simpa [sput] using h8 (by simpa [did] using h), hT⟩
    · unfold OpSteps
      obtain ⟨p0, p1, p2, p3, p4⟩ := cells5 (HZ1.out.below hT HZ1.out.lt)
      simp [go_sem, evS, f3, p0, p1, p2, p3, p4]
      exact ⟨fun h => by simpa [sput] using h0 (by simpa [did] using h), fun h => by simpa [sput] using h1 (by simpa [did] using h), fun _ => by simp [sput], fun h => by simpa [sput] using h3 (by simpa [did] using h), fun h => by simpa [sput] using h4 (by simpa [did] using h), fun h => by simpa [sput] using h5 (by simpa [did] using h), fun h => by simpa [sput] using h6 (by simpa [did] using h), fun h => by simpa [sput] using h7 (by simpa [did] using h), fun h => by simpa [sput] using h8 (by simpa [did] using h), hT⟩
    · unfold OpSteps
      simp [go_sem, evS, f1]
      exact ⟨fun h => by simpa [sput] using h0 (by simpa [did] using h), fun h => by simpa [sput] using h1 (by simpa [did] using h), fun h => by simpa [sput] using h2 (by simpa [did] using h), fun _ => by simp [sput], fun h => by simpa [sput] using h4 (by simpa [did] using h), fun h => by simpa [sput] using h5 (by simpa [did] using h), fun h => by simpa [sput] using h6 (by simpa [did] using h), fun h => by simpa [sput] using h7 (by simpa [did] using h), fun h => by simpa [sput] using h8 (by simpa [did] using h), hT⟩
    · unfold OpSteps
      simp [go_sem, evS, f2]
      exact ⟨fun h => by simpa [sput] using h0 (by simpa [did] using h), fun h => by simpa [sput] using h1 (by simpa [did] using h), fun h => by simpa [sput] using h2 (by simpa [did] using h), fun h => by simpa [sput] using h3 (by simpa [did] using h), fun _ => by simp [sput], fun h => by simpa [sput] using h5 (by simpa [did] using h), fun h => by simpa [sput] using h6 (by simpa [did] using h), fun h => by simpa [sput] using h7 (by simpa [did] using h), fun h => by simpa [sput] using h8 (by simpa [did] using h), hT⟩
    · have g2 := h2 (by simp [hdep])
      have g3 := h3 (by simp [hdep])
      have g4 := h4 (by simp [hdep])
      unfold OpSteps
      simp [go_sem, evS, g2, g3, g4]
      refine (HP.out W).mono ?_
      rintro e W' ⟨rfl, hb⟩
      refine ⟨_, rfl, ?_⟩
      exact ⟨fun h => by simpa [sput] using h0 (by simpa [did] using h), fun h => by simpa [sput] using h1 (by simpa [did] using h), fun h => by simpa [sput] using h2 (by simpa [did] using h), fun h => by simpa [sput] using h3 (by simpa [did] using h), fun h => by simpa [sput] using h4 (by simpa [did] using h), fun _ => by simp [sput], fun h => by simpa [sput] using h6 (by simpa [did] using h), fun h => by simpa [sput] using h7 (by simpa [did] using h), fun h => by simpa [sput] using h8 (by simpa [did] using h), below_nx hT hb⟩
    · have g1 := h1 (by simp [hdep])
      have g5 := h5 (by simp [hdep])
      unfold OpSteps
      simp [go_sem, evS, g1, g5, b2]
      exact ⟨fun h => by simpa [sput] using h0 (by simpa [did] using h), fun h => by simpa [sput] using h1 (by simpa [did] using h), fun h => by simpa [sput] using h2 (by simpa [did] using h), fun h => by simpa [sput] using h3 (by simpa [did] using h), fun h => by simpa [sput] using h4 (by simpa [did] using h), fun h => by simpa [sput] using h5 (by simpa [did] using h), fun _ => by simp [sput], fun h => by simpa [sput] using h7 (by simpa [did] using h), fun h => by simpa [sput] using h8 (by simpa [did] using h), hT⟩
    · have g6 := h6 (by simp [hdep])
      unfold OpSteps
      have pc := cell_below HCe.out hT
      simp [go_sem, evS, g6, pc]
      exact ⟨fun h => by simpa [sput] using h0 (by simpa [did] using h), fun h => by simpa [sput] using h1 (by simpa [did] using h), fun h => by simpa [sput] using h2 (by simpa [did] using h), fun h => by simpa [sput] using h3 (by simpa [did] using h), fun h => by simpa [sput] using h4 (by simpa [did] using h), fun h => by simpa [sput] using h5 (by simpa [did] using h), fun h => by simpa [sput] using h6 (by simpa [did] using h), fun _ => by simp [sput], fun h => by simpa [sput] using h8 (by simpa [did] using h), hT⟩
    · have g7 := h7 (by simp [hdep])
      unfold OpSteps
      simp [go_sem, evS, g7]
      exact ⟨fun h => by simpa [sput] using h0 (by simpa [did] using h), fun h => by simpa [sput] using h1 (by simpa [did] using h), fun h => by simpa [sput] using h2 (by simpa [did] using h), fun h => by simpa [sput] using h3 (by simpa [did] using h), fun h => by simpa [sput] using h4 (by simpa [did] using h), fun h => by simpa [sput] using h5 (by simpa [did] using h), fun h => by simpa [sput] using h6 (by simpa [did] using h), fun h => by simpa [sput] using h7 (by simpa [did] using h), fun _ => by simp [sput], hT⟩
  intro d s W hJ hd
  obtain ⟨h0, h1, h2, h3, h4, h5, h6, h7, h8, hT⟩ := hJ
  have hs := h8 (hd 8 (by decide))
  have HBe := Lib.hid (below_nx HB1.out hT)
  clear h0 h1 h2 h3 h4 h5 h6 h7 h8 hT hd
  simp [setAll, hs]
  clear hs
  go_wp2_with fail
  go_ret
  exact ⟨rfl, HBe.out⟩

set_option maxHeartbeats 1000000 in
theorem trnum1 (A : Option Addr) (n c o R L : Nat) (f : Nat → Nat → Nat) (i k : Nat) (w : World) (hM : MxC w A o R L f) (hn : n < 1048576) (hLI : I64 L) (hRb : R < 1048576) (hL1 : 1 ≤ L) (hRL : R ≤ L) (hmr : R = 0 ∨ R = 0 ∨ o + (R - 1) * L + (R - 1) < n) (hi : i < R) (hk : k < R) :
    Calls Try.prog 61 #[tri 1 A n c o R R L, .int .i64 i, .int .i64 k] w fun e w' => e = .returned (.tuple #[.float .f64 (trV 1 f i k), .bool (trT 1 i k)]) ∧ Below w.heap.size w w' := by
  obtain ⟨b, x0, rfl, hc⟩ := hM i hi k hk
  have HA := Lib.hid (fun W (hb : Below w.heap.size w W) => vat_cell b x0 n c o R R L i k (f i k) W (cell_below hc hb) hn hLI hRb hRb hL1 hRL hmr hi hk)
  clear hM hc hn hLI hRb hL1 hRL hmr hi hk
  unfold mat at HA
  unfold tri
  by_cases h : i = k
  · have e1 : trV 1 f i k = 4607182418800017408 := by unfold trV; simp [h]
    have e2 : trT 1 i k = true := by unfold trT; simp [h]
    have e3 : ((i : Int) == (k : Int)) = true := by simp [h]
    have e4 : (i == k) = true := by simp [h]
    rw [e1, e2]
    subst h
    clear HA
    go_enter Try.func61, Try.ntmps61
    have HB := Lib.hid ((Below.refl w.heap.size w).alloc (Nat.le_refl _) (.cells #[.int .i64 1, .slice (some ⟨b, x0, none⟩) n c, .int .i64 o, .int .i64 R, .int .i64 R, .int .i64 L] 80))
    have HZ := Lib.hid (Blk.new w 80 #[.int .i64 1, .slice (some ⟨b, x0, none⟩) n c, .int .i64 o, .int .i64 R, .int .i64 R, .int .i64 L])
    obtain ⟨z0, z1, z2, z3, z4, z5⟩ := cells6 HZ.out
    go_wp2_with fail
    go_ret2
    exact ⟨rfl, HB.out⟩
  · have e1 : trV 1 f i k = f i k := by unfold trV; simp [h]
    have e2 : trT 1 i k = decide (k < i) := by
      unfold trT
      simp
      omega
    have e3 : ((i : Int) == (k : Int)) = false := by simp; omega
    have e4 : (i == k) = false := by simp [h]
    have e5 : ¬ (i : Int) = (k : Int) := by omega
    rw [e1, e2]
    go_enter Try.func61, Try.ntmps61
    have HB := Lib.hid ((Below.refl w.heap.size w).alloc (Nat.le_refl _) (.cells #[.int .i64 1, .slice (some ⟨b, x0, none⟩) n c, .int .i64 o, .int .i64 R, .int .i64 R, .int .i64 L] 80))
    have HZ := Lib.hid (Blk.new w 80 #[.int .i64 1, .slice (some ⟨b, x0, none⟩) n c, .int .i64 o, .int .i64 R, .int .i64 R, .int .i64 L])
    obtain ⟨z0, z1, z2, z3, z4, z5⟩ := cells6 HZ.out
    go_wp2_with fail
    refine (HA.out _ (below_nx HB.out (Below.refl _ _))).mono ?_
    rintro e w1 ⟨rfl, hb⟩
    have HB1 := Lib.hid (below_nx HB.out hb)
    clear hb z0 z1 z2 z3 z4 z5
    go_wp2_with fail
    go_ret2
    exact ⟨rfl, HB1.out⟩

set_option maxHeartbeats 1000000 in
theorem trnum2 (A : Option Addr) (n c o R L : Nat) (f : Nat → Nat → Nat) (i k : Nat) (w : World) (hM : MxC w A o R L f) (hn : n < 1048576) (hLI : I64 L) (hRb : R < 1048576) (hL1 : 1 ≤ L) (hRL : R ≤ L) (hmr : R = 0 ∨ R = 0 ∨ o + (R - 1) * L + (R - 1) < n) (hi : i < R) (hk : k < R) :
    Calls Try.prog 61 #[tri 2 A n c o R R L, .int .i64 i, .int .i64 k] w fun e w' => e = .returned (.tuple #[.float .f64 (trV 2 f i k), .bool (trT 2 i k)]) ∧ Below w.heap.size w w' := by
  obtain ⟨b, x0, rfl, hc⟩ := hM i hi k hk
  have HA := Lib.hid (fun W (hb : Below w.heap.size w W) => vat_cell b x0 n c o R R L i k (f i k) W (cell_below hc hb) hn hLI hRb hRb hL1 hRL hmr hi hk)
  clear hM hc hn hLI hRb hL1 hRL hmr hi hk
  unfold mat at HA
  unfold tri
  have e1 : trV 2 f i k = f i k := by unfold trV; simp
  have e2 : trT 2 i k = decide (i ≤ k) := by unfold trT; simp
  rw [e1, e2]
  go_enter Try.func61, Try.ntmps61
  have HB := Lib.hid ((Below.refl w.heap.size w).alloc (Nat.le_refl _) (.cells #[.int .i64 2, .slice (some ⟨b, x0, none⟩) n c, .int .i64 o, .int .i64 R, .int .i64 R, .int .i64 L] 80))
  have HZ := Lib.hid (Blk.new w 80 #[.int .i64 2, .slice (some ⟨b, x0, none⟩) n c, .int .i64 o, .int .i64 R, .int .i64 R, .int .i64 L])
  obtain ⟨z0, z1, z2, z3, z4, z5⟩ := cells6 HZ.out
  go_wp2_with fail
  refine (HA.out _ (below_nx HB.out (Below.refl _ _))).mono ?_
  rintro e w1 ⟨rfl, hb⟩
  have HB1 := Lib.hid (below_nx HB.out hb)
  clear hb z0 z1 z2 z3 z4 z5
  go_wp2_with fail
  go_ret2
  exact ⟨rfl, HB1.out⟩

set_option maxHeartbeats 1000000 in
theorem trnum3 (A : Option Addr) (n c o R L : Nat) (f : Nat → Nat → Nat) (i k : Nat) (w : World) (hM : MxC w A o R L f) (hn : n < 1048576) (hLI : I64 L) (hRb : R < 1048576) (hL1 : 1 ≤ L) (hRL : R ≤ L) (hmr : R = 0 ∨ R = 0 ∨ o + (R - 1) * L + (R - 1) < n) (hi : i < R) (hk : k < R) :
    Calls Try.prog 61 #[tri 3 A n c o R R L, .int .i64 i, .int .i64 k] w fun e w' => e = .returned (.tuple #[.float .f64 (trV 3 f i k), .bool (trT 3 i k)]) ∧ Below w.heap.size w w' := by
  obtain ⟨b, x0, rfl, hc⟩ := hM k hk i hi
  have HA := Lib.hid (fun W (hb : Below w.heap.size w W) => vat_cell b x0 n c o R R L k i (f k i) W (cell_below hc hb) hn hLI hRb hRb hL1 hRL hmr hk hi)
  clear hM hc hn hLI hRb hL1 hRL hmr hi hk
  unfold mat at HA
  unfold tri
  by_cases h : k = i
  · have e1 : trV 3 f i k = 4607182418800017408 := by unfold trV; simp [h]
    have e2 : trT 3 i k = true := by unfold trT; simp [h]
    have e3 : ((k : Int) == (i : Int)) = true := by simp [h]
    have e4 : (k == i) = true := by simp [h]
    rw [e1, e2]
    subst h
    clear HA
    go_enter Try.func61, Try.ntmps61
    have HB := Lib.hid ((Below.refl w.heap.size w).alloc (Nat.le_refl _) (.cells #[.int .i64 3, .slice (some ⟨b, x0, none⟩) n c, .int .i64 o, .int .i64 R, .int .i64 R, .int .i64 L] 80))
    have HZ := Lib.hid (Blk.new w 80 #[.int .i64 3, .slice (some ⟨b, x0, none⟩) n c, .int .i64 o, .int .i64 R, .int .i64 R, .int .i64 L])
    obtain ⟨z0, z1, z2, z3, z4, z5⟩ := cells6 HZ.out
    go_wp2_with fail
    go_ret2
    exact ⟨rfl, HB.out⟩
  · have e1 : trV 3 f i k = f k i := by unfold trV; simp [h]
    have e2 : trT 3 i k = decide (i < k) := by
      unfold trT
      simp
      omega
    have e3 : ((k : Int) == (i : Int)) = false := by simp; omega
    have e4 : (k == i) = false := by simp [h]
    have e5 : ¬ (k : Int) = (i : Int) := by omega
    rw [e1, e2]
    go_enter Try.func61, Try.ntmps61
    have HB := Lib.hid ((Below.refl w.heap.size w).alloc (Nat.le_refl _) (.cells #[.int .i64 3, .slice (some ⟨b, x0, none⟩) n c, .int .i64 o, .int .i64 R, .int .i64 R, .int .i64 L] 80))
    have HZ := Lib.hid (Blk.new w 80 #[.int .i64 3, .slice (some ⟨b, x0, none⟩) n c, .int .i64 o, .int .i64 R, .int .i64 R, .int .i64 L])
    obtain ⟨z0, z1, z2, z3, z4, z5⟩ := cells6 HZ.out
    go_wp2_with fail
    refine (HA.out _ (below_nx HB.out (Below.refl _ _))).mono ?_
    rintro e w1 ⟨rfl, hb⟩
    have HB1 := Lib.hid (below_nx HB.out hb)
    clear hb z0 z1 z2 z3 z4 z5
    go_wp2_with fail
    go_ret2
    exact ⟨rfl, HB1.out⟩

set_option maxHeartbeats 1000000 in
theorem trnum4 (A : Option Addr) (n c o R L : Nat) (f : Nat → Nat → Nat) (i k : Nat) (w : World) (hM : MxC w A o R L f) (hn : n < 1048576) (hLI : I64 L) (hRb : R < 1048576) (hL1 : 1 ≤ L) (hRL : R ≤ L) (hmr : R = 0 ∨ R = 0 ∨ o + (R - 1) * L + (R - 1) < n) (hi : i < R) (hk : k < R) :
    Calls Try.prog 61 #[tri 4 A n c o R R L, .int .i64 i, .int .i64 k] w fun e w' => e = .returned (.tuple #[.float .f64 (trV 4 f i k), .bool (trT 4 i k)]) ∧ Below w.heap.size w w' := by
  obtain ⟨b, x0, rfl, hc⟩ := hM k hk i hi
  have HA := Lib.hid (fun W (hb : Below w.heap.size w W) => vat_cell b x0 n c o R R L k i (f k i) W (cell_below hc hb) hn hLI hRb hRb hL1 hRL hmr hk hi)
  clear hM hc hn hLI hRb hL1 hRL hmr hi hk
  unfold mat at HA
  unfold tri
  have e1 : trV 4 f i k = f k i := by unfold trV; simp
  have e2 : trT 4 i k = decide (k ≤ i) := by unfold trT; simp
  rw [e1, e2]
  go_enter Try.func61, Try.ntmps61
  have HB := Lib.hid ((Below.refl w.heap.size w).alloc (Nat.le_refl _) (.cells #[.int .i64 4, .slice (some ⟨b, x0, none⟩) n c, .int .i64 o, .int .i64 R, .int .i64 R, .int .i64 L] 80))
  have HZ := Lib.hid (Blk.new w 80 #[.int .i64 4, .slice (some ⟨b, x0, none⟩) n c, .int .i64 o, .int .i64 R, .int .i64 R, .int .i64 L])
  obtain ⟨z0, z1, z2, z3, z4, z5⟩ := cells6 HZ.out
  go_wp2_with fail
  refine (HA.out _ (below_nx HB.out (Below.refl _ _))).mono ?_
  rintro e w1 ⟨rfl, hb⟩
  have HB1 := Lib.hid (below_nx HB.out hb)
  clear hb z0 z1 z2 z3 z4 z5
  go_wp2_with fail
  go_ret2
  exact ⟨rfl, HB1.out⟩

theorem trnum_any (kd : Nat) (hkd : kd = 1 ∨ kd = 2 ∨ kd = 3 ∨ kd = 4) (A : Option Addr) (n c o R L : Nat) (f : Nat → Nat → Nat) (i k : Nat) (w : World) (hM : MxC w A o R L f) (hn : n < 1048576) (hLI : I64 L) (hRb : R < 1048576) (hL1 : 1 ≤ L) (hRL : R ≤ L) (hmr : R = 0 ∨ R = 0 ∨ o + (R - 1) * L + (R - 1) < n) (hi : i < R) (hk : k < R) :
    Calls Try.prog 61 #[tri (kd : Int) A n c o R R L, .int .i64 i, .int .i64 k] w fun e w' => e = .returned (.tuple #[.float .f64 (trV kd f i k), .bool (trT kd i k)]) ∧ Below w.heap.size w w' := by
  rcases hkd with rfl | rfl | rfl | rfl
  · exact trnum1 A n c o R L f i k w hM hn hLI hRb hL1 hRL hmr hi hk
  · exact trnum2 A n c o R L f i k w hM hn hLI hRb hL1 hRL hmr hi hk
  · exact trnum3 A n c o R L f i k w hM hn hLI hRb hL1 hRL hmr hi hk
  · exact trnum4 A n c o R L f i k w hM hn hLI hRb hL1 hRL hmr hi hk

end Go.Proofs.Ytcdhpoikppfjkaa
