/-
GemmWhole: the same worths. Conditions: as each says.
-/
import Derived.Test.YtbbgldelebgnfaaUbab
import Derived.Test.YtbbgldelebgnfaaZGeM
import Derived.Test.YtbbgldelebgnfaaUaaq
import Derived.Test.YtbbgldelebgnfaaUaal
set_option linter.unusedVariables false
set_option linter.unusedSimpArgs false
set_option linter.unnecessarySimpa false
namespace Go.Proofs.Ytbbgldelebgnfaa
open Go.RowKit
attribute [local go_sem ↓] Go.wp_at_zero Go.wp_at_succ

@[go_sem] theorem run_field_AH (r k : Int) (g n c : Nat) (w : World) : (Instr.field 35 (.agg #[.int .i64 r, .int .i64 k, .slice (some ⟨g, 0, none⟩) n c]) 2).run Try.prog w = .ok (.slice (some ⟨g, 0, none⟩) n c) w := by kernel_rfl

set_option maxRecDepth 100000 in
set_option maxHeartbeats 2000000 in
theorem gesame_any (A B : Option Addr) (n c dd : Nat) (x y : List Nat) (w : World) (hA : Row w A (f64s x)) (hB : Row w B (f64s y)) (hx : x.length = n) (hy : y.length = n) (hn : n < 1048576) (hE : ∀ i, i < n → (FloatKind.f64.format.order (x.getD i 0) (y.getD i 0) != some .eq) = false) :
    Calls Try.prog 23 #[.slice A n c, .slice B n dd] w fun e w' => e = .returned (.bool true) ∧ Below w.heap.size w w' := by
  have HA := Lib.hid hA
  have HBb := Lib.hid hB
  have Hx := Lib.hid hx
  have Hy := Lib.hid hy
  have HE := Lib.hid hE
  have tn : ((n : Int) != (n : Int)) = false := by simp
  have HB0 := Lib.hid (Below.refl w.heap.size w)
  clear hA hB hx hy hE
  go_enter Try.func23, Try.ntmps23
  go_wp2_with fail
  go_loopw [5] (fun a wr => ∃ q : Nat, q ≤ n ∧ a = .int .i64 (q : Int) ∧ Hid (Below w.heap.size w wr)) (fun a _ => n - (intOf a).toNat)
  case atStart => exact ⟨0, Nat.zero_le _, rfl, HB0⟩
  case round =>
    clear HB0
    obtain ⟨q, hq, rfl, HBr⟩ := hrel
    by_cases hlt : q < n
    · have bq := hlt
      have bqi : (q : Int) < (n : Int) := by omega
      have hq1 : q + 1 ≤ 1048576 := by omega
      obtain ⟨b1, o1, rfl, hc1⟩ := HA.out.get0 (k := q) (by rw [Hx.out]; exact hlt)
      obtain ⟨b2, o2, rfl, hc2⟩ := HBb.out.get0 (k := q) (by rw [Hy.out]; exact hlt)
      have hE := HE.out q hlt
      have HC1 := Lib.hid (cell_below hc1 HBr.out)
      have HC2 := Lib.hid (cell_below hc2 HBr.out)
      obtain ⟨x0, hx0⟩ : ∃ x0, x.getD q 0 = x0 := ⟨_, rfl⟩
      obtain ⟨y0, hy0⟩ : ∃ y0, y.getD q 0 = y0 := ⟨_, rfl⟩
      rw [hx0] at HC1 hE
      rw [hy0] at HC2 hE
      clear hc1 hc2 hx0 hy0
      go_wp2_with fail
      refine wp_region_inv [17, 18, 19, 20, 21, 22, 23, 24, 25] (fun d s W => (d 0 = true → s 17 = .slice (some ⟨b1, o1, none⟩) n c) ∧ (d 1 = true → s 18 = .int .i64 (q : Int)) ∧ (d 2 = true → s 19 = .pointer (some ⟨b1, o1 + q, none⟩)) ∧ (d 3 = true → s 20 = .float .f64 x0) ∧ (d 4 = true → s 21 = .slice (some ⟨b2, o2, none⟩) n dd) ∧ (d 5 = true → s 22 = .int .i64 (q : Int)) ∧ (d 6 = true → s 23 = .pointer (some ⟨b2, o2 + q, none⟩)) ∧ (d 7 = true → s 24 = .float .f64 y0) ∧ (d 8 = true → s 25 = .bool false) ∧ Below wr.heap.size wr W)
        rfl (by kernel_rfl) ?_ ?_ ?_
      · exact ⟨by simp, by simp, by simp, by simp, by simp, by simp, by simp, by simp, by simp, (Below.refl _ _).drew⟩
      · refine ⟨?_, ?_, ?_, ?_, ?_, ?_, ?_, ?_, ?_, trivial⟩
        all_goals
          intro d s W hJ hfr hd hdep
          simp only [List.mem_cons, forall_eq_or_imp, List.not_mem_nil, false_implies, implies_true, and_true, Region.binds] at hdep
          have f0 := hfr 0 (by decide)
          have f1 := hfr 1 (by decide)
          have f5 := hfr 5 (by decide)
          simp at f0 f1 f5 hdep
          obtain ⟨h0, h1, h2, h3, h4, h5, h6, h7, h8, hT⟩ := hJ
        · unfold OpSteps
          simp [go_sem, evS, f0]
          exact ⟨fun _ => by simp [sput], fun h => by simpa [sput] using h1 (by simpa [did] using h), fun h => by simpa [sput] using h2 (by simpa [did] using h), fun h => by simpa [sput] using h3 (by simpa [did] using h), fun h => by simpa [sput] using h4 (by simpa [did] using h), fun h => by simpa [sput] using h5 (by simpa [did] using h), fun h => by simpa [sput] using h6 (by simpa [did] using h), fun h => by simpa [sput] using h7 (by simpa [did] using h), fun h => by simpa [sput] using h8 (by simpa [did] using h), hT⟩
        · unfold OpSteps
          simp [go_sem, evS, f5]
          exact ⟨fun h => by simpa [sput] using h0 (by simpa [did] using h), fun _ => by simp [sput], fun h => by simpa [sput] using h2 (by simpa [did] using h), fun h => by simpa [sput] using h3 (by simpa [did] using h), fun h => by simpa [sput] using h4 (by simpa [did] using h), fun h => by simpa [sput] using h5 (by simpa [did] using h), fun h => by simpa [sput] using h6 (by simpa [did] using h), fun h => by simpa [sput] using h7 (by simpa [did] using h), fun h => by simpa [sput] using h8 (by simpa [did] using h), hT⟩
        · have g0 := h0 (by simp [hdep])
          have g1 := h1 (by simp [hdep])
          unfold OpSteps
          simp [go_sem, evS, g0, g1, bq, bqi]
          exact ⟨fun h => by simpa [sput] using h0 (by simpa [did] using h), fun h => by simpa [sput] using h1 (by simpa [did] using h), fun _ => by simp [sput], fun h => by simpa [sput] using h3 (by simpa [did] using h), fun h => by simpa [sput] using h4 (by simpa [did] using h), fun h => by simpa [sput] using h5 (by simpa [did] using h), fun h => by simpa [sput] using h6 (by simpa [did] using h), fun h => by simpa [sput] using h7 (by simpa [did] using h), fun h => by simpa [sput] using h8 (by simpa [did] using h), hT⟩
        · have g2 := h2 (by simp [hdep])
          unfold OpSteps
          have pc := cell_below HC1.out hT
          simp [go_sem, evS, g2, pc]
          exact ⟨fun h => by simpa [sput] using h0 (by simpa [did] using h), fun h => by simpa [sput] using h1 (by simpa [did] using h), fun h => by simpa [sput] using h2 (by simpa [did] using h), fun _ => by simp [sput], fun h => by simpa [sput] using h4 (by simpa [did] using h), fun h => by simpa [sput] using h5 (by simpa [did] using h), fun h => by simpa [sput] using h6 (by simpa [did] using h), fun h => by simpa [sput] using h7 (by simpa [did] using h), fun h => by simpa [sput] using h8 (by simpa [did] using h), hT⟩
        · unfold OpSteps
          simp [go_sem, evS, f1]
          exact ⟨fun h => by simpa [sput] using h0 (by simpa [did] using h), fun h => by simpa [sput] using h1 (by simpa [did] using h), fun h => by simpa [sput] using h2 (by simpa [did] using h), fun h => by simpa [sput] using h3 (by simpa [did] using h), fun _ => by simp [sput], fun h => by simpa [sput] using h5 (by simpa [did] using h), fun h => by simpa [sput] using h6 (by simpa [did] using h), fun h => by simpa [sput] using h7 (by simpa [did] using h), fun h => by simpa [sput] using h8 (by simpa [did] using h), hT⟩
        · unfold OpSteps
          simp [go_sem, evS, f5]
          exact ⟨fun h => by simpa [sput] using h0 (by simpa [did] using h), fun h => by simpa [sput] using h1 (by simpa [did] using h), fun h => by simpa [sput] using h2 (by simpa [did] using h), fun h => by simpa [sput] using h3 (by simpa [did] using h), fun h => by simpa [sput] using h4 (by simpa [did] using h), fun _ => by simp [sput], fun h => by simpa [sput] using h6 (by simpa [did] using h), fun h => by simpa [sput] using h7 (by simpa [did] using h), fun h => by simpa [sput] using h8 (by simpa [did] using h), hT⟩
        · have g4 := h4 (by simp [hdep])
          have g5 := h5 (by simp [hdep])
          unfold OpSteps
          simp [go_sem, evS, g4, g5, bq, bqi]
          exact ⟨fun h => by simpa [sput] using h0 (by simpa [did] using h), fun h => by simpa [sput] using h1 (by simpa [did] using h), fun h => by simpa [sput] using h2 (by simpa [did] using h), fun h => by simpa [sput] using h3 (by simpa [did] using h), fun h => by simpa [sput] using h4 (by simpa [did] using h), fun h => by simpa [sput] using h5 (by simpa [did] using h), fun _ => by simp [sput], fun h => by simpa [sput] using h7 (by simpa [did] using h), fun h => by simpa [sput] using h8 (by simpa [did] using h), hT⟩
        · have g6 := h6 (by simp [hdep])
          unfold OpSteps
          have pc := cell_below HC2.out hT
          simp [go_sem, evS, g6, pc]
          exact ⟨fun h => by simpa [sput] using h0 (by simpa [did] using h), fun h => by simpa [sput] using h1 (by simpa [did] using h), fun h => by simpa [sput] using h2 (by simpa [did] using h), fun h => by simpa [sput] using h3 (by simpa [did] using h), fun h => by simpa [sput] using h4 (by simpa [did] using h), fun h => by simpa [sput] using h5 (by simpa [did] using h), fun h => by simpa [sput] using h6 (by simpa [did] using h), fun _ => by simp [sput], fun h => by simpa [sput] using h8 (by simpa [did] using h), hT⟩
        · have g3 := h3 (by simp [hdep])
          have g7 := h7 (by simp [hdep])
          unfold OpSteps
          simp [go_sem, evS, g3, g7, hE]
          exact ⟨fun h => by simpa [sput] using h0 (by simpa [did] using h), fun h => by simpa [sput] using h1 (by simpa [did] using h), fun h => by simpa [sput] using h2 (by simpa [did] using h), fun h => by simpa [sput] using h3 (by simpa [did] using h), fun h => by simpa [sput] using h4 (by simpa [did] using h), fun h => by simpa [sput] using h5 (by simpa [did] using h), fun h => by simpa [sput] using h6 (by simpa [did] using h), fun h => by simpa [sput] using h7 (by simpa [did] using h), fun _ => by simp [sput], hT⟩
      intro d s W hJ hd
      obtain ⟨h0, h1, h2, h3, h4, h5, h6, h7, h8, hT⟩ := hJ
      have hs25 := h8 (hd 8 (by decide))
      have HB4 := Lib.hid (below_nx HBr.out hT)
      clear h0 h1 h2 h3 h4 h5 h6 h7 h8 hT hd
      simp [setAll, hs25]
      clear hs25
      generalize s 17 = s17
      generalize s 18 = s18
      generalize s 19 = s19
      generalize s 20 = s20
      generalize s 21 = s21
      generalize s 22 = s22
      generalize s 23 = s23
      generalize s 24 = s24
      generalize W = w9 at *
      go_wp2_with fail
      go_roundw
      case rel => exact ⟨q + 1, by omega, by go_num, HB4⟩
      case measure => simp [intOf] <;> omega
    · obtain rfl : n = q := by omega
      have hqc : ¬ (n : Int) < (n : Int) := by omega
      go_wp2_with fail
      go_ret
      exact ⟨rfl, HBr.out⟩
theorem small_room {R C N : Nat} (hN : R * C = N) (hR : 1 ≤ R) : R = 0 ∨ C = 0 ∨ 0 + (C - 1) * R + (R - 1) < N := dense_room (D := R) hN (by omega)
set_option maxRecDepth 100000 in
set_option maxHeartbeats 2000000 in
theorem geequal_any (gx gy R C N : Nat) (Mx My : List Nat) (Z : Nat → Nat → Int) (w : World) (hX : Row w (some ⟨gx, 0, none⟩) (f64s Mx)) (hY : Row w (some ⟨gy, 0, none⟩) (f64s My)) (hxl : Mx.length = N) (hyl : My.length = N) (hN : R * C = N) (hR1 : 1 ≤ R) (hR : R ≤ 6) (hC : C ≤ 6) (hx : ∀ i, i < R → ∀ j, j < C → EX (Mx.getD (0 + i + j * R) 0) (Z i j)) (hy : ∀ i, i < R → ∀ j, j < C → EX (My.getD (0 + i + j * R) 0) (Z i j)) :
    Calls Try.prog 22 #[.agg #[.slice (some ⟨gx, 0, none⟩) N N, .int .i64 0, .int .i64 (R : Int), .int .i64 (C : Int), .int .i64 (R : Int)], .agg #[.slice (some ⟨gy, 0, none⟩) N N, .int .i64 0, .int .i64 (R : Int), .int .i64 (C : Int), .int .i64 (R : Int)]] w fun e w' => e = .returned (.bool true) ∧ Below w.heap.size w w' := by
  have hNb : N ≤ 36 := by
    have h1 : R * C ≤ 6 * 6 := Nat.mul_le_mul hR hC
    omega
  have hroom := small_room hN hR1
  have HGx := Lib.hid (fun W => show Calls Try.prog 16 #[.agg #[.slice (some ⟨gx, 0, none⟩) N N, .int .i64 0, .int .i64 (R : Int), .int .i64 (C : Int), .int .i64 (R : Int)]] W fun e w' => e = .returned (.bool true) ∧ Below W.heap.size W w' from by
    have := rgood_any (some ⟨gx, 0, none⟩) N N 0 R C R W (by omega) (by unfold I64; omega) (by unfold I64; omega) (by unfold I64; omega) (by unfold I64; omega)
    rw [show matB N 0 (R : Int) (C : Int) (R : Int) = true from mat_right (o := 0) (by omega) (by omega) hroom] at this
    exact this)
  have HGy := Lib.hid (fun W => show Calls Try.prog 16 #[.agg #[.slice (some ⟨gy, 0, none⟩) N N, .int .i64 0, .int .i64 (R : Int), .int .i64 (C : Int), .int .i64 (R : Int)]] W fun e w' => e = .returned (.bool true) ∧ Below W.heap.size W w' from by
    have := rgood_any (some ⟨gy, 0, none⟩) N N 0 R C R W (by omega) (by unfold I64; omega) (by unfold I64; omega) (by unfold I64; omega) (by unfold I64; omega)
    rw [show matB N 0 (R : Int) (C : Int) (R : Int) = true from mat_right (o := 0) (by omega) (by omega) hroom] at this
    exact this)
  have HOx := Lib.hid (fun W (hb : Below w.heap.size w W) => show Calls Try.prog 14 #[.agg #[.slice (some ⟨gx, 0, none⟩) N N, .int .i64 0, .int .i64 (R : Int), .int .i64 (C : Int), .int .i64 (R : Int)]] W fun e w' => ∃ g T, e = .returned (.agg #[.int .i64 (R : Int), .int .i64 (C : Int), .slice (some ⟨g, 0, none⟩) N N]) ∧ Tab Mx 0 R C R N T ∧ Row w' (some ⟨g, 0, none⟩) (f64s T) ∧ Below W.heap.size W w' from by
    refine (rof_any (some ⟨gx, 0, none⟩) N N Mx 0 R C R N W (hX.below hb) hxl (by omega) hN (by omega) (by omega) (by omega) hroom).mono ?_
    rintro e w' ⟨g, T, k1, k2, k3, _, k4⟩
    exact ⟨g, T, k1, k2, k3, k4⟩)
  have HOy := Lib.hid (fun W (hb : Below w.heap.size w W) => show Calls Try.prog 14 #[.agg #[.slice (some ⟨gy, 0, none⟩) N N, .int .i64 0, .int .i64 (R : Int), .int .i64 (C : Int), .int .i64 (R : Int)]] W fun e w' => ∃ g T, e = .returned (.agg #[.int .i64 (R : Int), .int .i64 (C : Int), .slice (some ⟨g, 0, none⟩) N N]) ∧ Tab My 0 R C R N T ∧ Row w' (some ⟨g, 0, none⟩) (f64s T) ∧ Below W.heap.size W w' from by
    refine (rof_any (some ⟨gy, 0, none⟩) N N My 0 R C R N W (hY.below hb) hyl (by omega) hN (by omega) (by omega) (by omega) hroom).mono ?_
    rintro e w' ⟨g, T, k1, k2, k3, _, k4⟩
    exact ⟨g, T, k1, k2, k3, k4⟩)
  have HSm := Lib.hid (fun (A : Option Addr) (c : Nat) (T : List Nat) (B : Option Addr) (d : Nat) (T' : List Nat) (W : World) (h1 : Tab Mx 0 R C R N T) (h2 : Tab My 0 R C R N T') (h3 : Row W A (f64s T)) (h4 : Row W B (f64s T')) => gesame_any A B N c d T T' W h3 h4 (by rw [h1.1, hN]) (by rw [h2.1, hN]) (by omega) (fun x hx3 => by
    have hk0 : 0 < C := by
      rcases Nat.eq_zero_or_pos C with e | e
      · rw [e] at hN; omega
      · exact e
    have e2 : x = x / C * C + x % C := by rw [Nat.mul_comm]; exact (Nat.div_add_mod x C).symm
    have ha : x / C < R := Nat.div_lt_of_lt_mul (by rw [Nat.mul_comm, hN]; exact hx3)
    have hb := Nat.mod_lt x hk0
    rw [e2, tab_get h1 hN ha hb, tab_get h2 hN ha hb]
    exact turns_eqe (hx _ ha _ hb) (hy _ ha _ hb)))
  clear hX hY hxl hyl hN hR1 hR hC hx hy hNb hroom
  go_enter Try.func22, Try.ntmps22
  have Hx00 := Lib.hid ((Blk.new w 25 #[.slice (some ⟨gx, 0, none⟩) N N, .int .i64 0, .int .i64 (R : Int), .int .i64 (C : Int), .int .i64 (R : Int)]).alloc (.cells #[.slice (some ⟨gy, 0, none⟩) N N, .int .i64 0, .int .i64 (R : Int), .int .i64 (C : Int), .int .i64 (R : Int)] 25))
  have Hy00 := Lib.hid (Blk.new_ (w.alloc (.cells #[.slice (some ⟨gx, 0, none⟩) N N, .int .i64 0, .int .i64 (R : Int), .int .i64 (C : Int), .int .i64 (R : Int)] 25)) 25 #[.slice (some ⟨gy, 0, none⟩) N N, .int .i64 0, .int .i64 (R : Int), .int .i64 (C : Int), .int .i64 (R : Int)] (w.heap.size + 1) (by simp))
  have HB00 := Lib.hid (((Below.refl w.heap.size w).alloc (Nat.le_refl _) (.cells #[.slice (some ⟨gx, 0, none⟩) N N, .int .i64 0, .int .i64 (R : Int), .int .i64 (C : Int), .int .i64 (R : Int)] 25)).alloc (by simp) (.cells #[.slice (some ⟨gy, 0, none⟩) N N, .int .i64 0, .int .i64 (R : Int), .int .i64 (C : Int), .int .i64 (R : Int)] 25))
  go_wp2_with fail
  generalize hwz : (w.alloc (.cells #[.slice (some ⟨gx, 0, none⟩) N N, .int .i64 0, .int .i64 (R : Int), .int .i64 (C : Int), .int .i64 (R : Int)] 25)).alloc (.cells #[.slice (some ⟨gy, 0, none⟩) N N, .int .i64 0, .int .i64 (R : Int), .int .i64 (C : Int), .int .i64 (R : Int)] 25) = wz at *
  have Hx0 := Hx00
  have Hy0 := Hy00
  have HB0 := HB00
  clear hwz Hx00 Hy00 HB00
  refine wp_region_invG [5, 6, 7, 8, 9, 10, 11, 12, 13, 14, 15, 16, 17, 18, 19, 20, 21, 22, 23, 24, 25, 26, 4] (fun d s W => (d 0 = true → s 5 = .agg #[.slice (some ⟨gx, 0, none⟩) N N, .int .i64 0, .int .i64 (R : Int), .int .i64 (C : Int), .int .i64 (R : Int)]) ∧ (d 1 = true → s 6 = .bool true) ∧ (d 2 = true → s 7 = .bool true) ∧ (d 3 = true → s 8 = .agg #[.slice (some ⟨gy, 0, none⟩) N N, .int .i64 0, .int .i64 (R : Int), .int .i64 (C : Int), .int .i64 (R : Int)]) ∧ (d 4 = true → s 9 = .bool true) ∧ (d 5 = true → s 10 = .bool true) ∧ (d 6 = true → s 11 = .bool true) ∧ (d 7 = true → s 12 = .pointer (some ⟨w.heap.size, 2, none⟩)) ∧ (d 8 = true → s 13 = .int .i64 (R : Int)) ∧ (d 9 = true → s 14 = .pointer (some ⟨w.heap.size + 1, 2, none⟩)) ∧ (d 10 = true → s 15 = .int .i64 (R : Int)) ∧ (d 11 = true → s 16 = .bool true) ∧ (d 12 = true → s 17 = .bool true) ∧ (d 13 = true → s 18 = .bool true) ∧ (d 14 = true → s 19 = .agg #[.slice (some ⟨gx, 0, none⟩) N N, .int .i64 0, .int .i64 (R : Int), .int .i64 (C : Int), .int .i64 (R : Int)]) ∧ (d 15 = true → TbG W (s 20) (Tab Mx 0 R C R N) R C N) ∧ (d 16 = true → SlG W (s 21) (Tab Mx 0 R C R N) N) ∧ (d 17 = true → s 22 = .agg #[.slice (some ⟨gy, 0, none⟩) N N, .int .i64 0, .int .i64 (R : Int), .int .i64 (C : Int), .int .i64 (R : Int)]) ∧ (d 18 = true → TbG W (s 23) (Tab My 0 R C R N) R C N) ∧ (d 19 = true → SlG W (s 24) (Tab My 0 R C R N) N) ∧ (d 20 = true → s 25 = .bool true) ∧ (d 21 = true → s 26 = .bool true) ∧ (d 22 = true → s 4 = .bool true) ∧ Below wz.heap.size wz W)
    rfl (by kernel_rfl) ?_ ?_ ?_
  · exact ⟨by simp, by simp, by simp, by simp, by simp, by simp, by simp, by simp, by simp, by simp, by simp, by simp, by simp, by simp, by simp, by simp, by simp, by simp, by simp, by simp, by simp, by simp, by simp, (Below.refl _ _).drew⟩
  · refine ⟨?_, ?_, ?_, ?_, ?_, ?_, ?_, ?_, ?_, ?_, ?_, ?_, ?_, ?_, ?_, ?_, ?_, ?_, ?_, ?_, ?_, ?_, ?_, trivial⟩
    all_goals
      intro d s W hJ hfr hd hdep
      simp only [List.mem_cons, forall_eq_or_imp, List.not_mem_nil, false_implies, implies_true, and_true, Region.binds] at hdep
      have f2 := hfr 2 (by decide)
      have f3 := hfr 3 (by decide)
      simp at f2 f3 hdep
      obtain ⟨h0, h1, h2, h3, h4, h5, h6, h7, h8, h9, h10, h11, h12, h13, h14, h15, h16, h17, h18, h19, h20, h21, h22, hT⟩ := hJ
    · as_aux_lemma =>
        refine stepG_plain rfl ?_
        unfold OpSteps
        obtain ⟨p0, p1, p2, p3, p4⟩ := cells5 (Hx0.out.below hT Hx0.out.lt)
        simp [go_sem, evS, f2, p0, p1, p2, p3, p4]
        exact ⟨fun _ => by simp [sput], kpw h1, kpw h2, kpw h3, kpw h4, kpw h5, kpw h6, kpw h7, kpw h8, kpw h9, kpw h10, kpw h11, kpw h12, kpw h13, kpw h14, fun h => by simpa [sput] using h15 (by simpa [did] using h), fun h => by simpa [sput] using h16 (by simpa [did] using h), kpw h17, fun h => by simpa [sput] using h18 (by simpa [did] using h), fun h => by simpa [sput] using h19 (by simpa [did] using h), kpw h20, kpw h21, kpw h22, hT⟩
    · as_aux_lemma =>
        have g0 := h0 (by simp [hdep])
        refine stepG_plain rfl ?_
        unfold OpSteps
        simp [go_sem, evS, g0]
        refine (HGx.out W).mono ?_
        rintro e W' ⟨rfl, hb⟩
        refine ⟨_, rfl, ?_⟩
        exact ⟨kpw h0, fun _ => by simp [sput], kpw h2, kpw h3, kpw h4, kpw h5, kpw h6, kpw h7, kpw h8, kpw h9, kpw h10, kpw h11, kpw h12, kpw h13, kpw h14, fun h => by simpa [sput] using (h15 (by simpa [did] using h)).below hb, fun h => by simpa [sput] using (h16 (by simpa [did] using h)).below hb, kpw h17, fun h => by simpa [sput] using (h18 (by simpa [did] using h)).below hb, fun h => by simpa [sput] using (h19 (by simpa [did] using h)).below hb, kpw h20, kpw h21, kpw h22, below_nx hT hb⟩
    · as_aux_lemma =>
        have g1 := h1 (by simp [hdep])
        refine stepG_plain rfl ?_
        unfold OpSteps
        simp [go_sem, evS, g1]
        exact ⟨kpw h0, kpw h1, fun _ => by simp [sput], kpw h3, kpw h4, kpw h5, kpw h6, kpw h7, kpw h8, kpw h9, kpw h10, kpw h11, kpw h12, kpw h13, kpw h14, fun h => by simpa [sput] using h15 (by simpa [did] using h), fun h => by simpa [sput] using h16 (by simpa [did] using h), kpw h17, fun h => by simpa [sput] using h18 (by simpa [did] using h), fun h => by simpa [sput] using h19 (by simpa [did] using h), kpw h20, kpw h21, kpw h22, hT⟩
    · as_aux_lemma =>
        have g2 := h2 (by simp [hdep])
        refine stepG_on 2 7 true rfl rfl g2 ?_
        unfold OpSteps
        obtain ⟨p0, p1, p2, p3, p4⟩ := cells5 (Hy0.out.below hT Hy0.out.lt)
        simp [go_sem, evS, f3, g2, p0, p1, p2, p3, p4]
        exact ⟨kpw h0, kpw h1, kpw h2, fun _ => by simp [sput], kpw h4, kpw h5, kpw h6, kpw h7, kpw h8, kpw h9, kpw h10, kpw h11, kpw h12, kpw h13, kpw h14, fun h => by simpa [sput] using h15 (by simpa [did] using h), fun h => by simpa [sput] using h16 (by simpa [did] using h), kpw h17, fun h => by simpa [sput] using h18 (by simpa [did] using h), fun h => by simpa [sput] using h19 (by simpa [did] using h), kpw h20, kpw h21, kpw h22, hT⟩
    · as_aux_lemma =>
        have g3 := h3 (by simp [hdep])
        have g2 := h2 (by simp [hdep])
        refine stepG_on 2 7 true rfl rfl g2 ?_
        unfold OpSteps
        simp [go_sem, evS, g3, g2]
        refine (HGy.out W).mono ?_
        rintro e W' ⟨rfl, hb⟩
        refine ⟨_, rfl, ?_⟩
        exact ⟨kpw h0, kpw h1, kpw h2, kpw h3, fun _ => by simp [sput], kpw h5, kpw h6, kpw h7, kpw h8, kpw h9, kpw h10, kpw h11, kpw h12, kpw h13, kpw h14, fun h => by simpa [sput] using (h15 (by simpa [did] using h)).below hb, fun h => by simpa [sput] using (h16 (by simpa [did] using h)).below hb, kpw h17, fun h => by simpa [sput] using (h18 (by simpa [did] using h)).below hb, fun h => by simpa [sput] using (h19 (by simpa [did] using h)).below hb, kpw h20, kpw h21, kpw h22, below_nx hT hb⟩
    · as_aux_lemma =>
        have g2 := h2 (by simp [hdep])
        have g4 := h4 (by simp [hdep])
        refine stepG_plain rfl ?_
        unfold OpSteps
        simp [go_sem, evS, g2, g4]
        exact ⟨kpw h0, kpw h1, kpw h2, kpw h3, kpw h4, fun _ => by simp [sput], kpw h6, kpw h7, kpw h8, kpw h9, kpw h10, kpw h11, kpw h12, kpw h13, kpw h14, fun h => by simpa [sput] using h15 (by simpa [did] using h), fun h => by simpa [sput] using h16 (by simpa [did] using h), kpw h17, fun h => by simpa [sput] using h18 (by simpa [did] using h), fun h => by simpa [sput] using h19 (by simpa [did] using h), kpw h20, kpw h21, kpw h22, hT⟩
    · as_aux_lemma =>
        have g5 := h5 (by simp [hdep])
        refine stepG_plain rfl ?_
        unfold OpSteps
        simp [go_sem, evS, g5]
        exact ⟨kpw h0, kpw h1, kpw h2, kpw h3, kpw h4, kpw h5, fun _ => by simp [sput], kpw h7, kpw h8, kpw h9, kpw h10, kpw h11, kpw h12, kpw h13, kpw h14, fun h => by simpa [sput] using h15 (by simpa [did] using h), fun h => by simpa [sput] using h16 (by simpa [did] using h), kpw h17, fun h => by simpa [sput] using h18 (by simpa [did] using h), fun h => by simpa [sput] using h19 (by simpa [did] using h), kpw h20, kpw h21, kpw h22, hT⟩
    · as_aux_lemma =>
        have g6 := h6 (by simp [hdep])
        refine stepG_on 6 11 true rfl rfl g6 ?_
        unfold OpSteps
        simp [go_sem, evS, f2, g6]
        exact ⟨kpw h0, kpw h1, kpw h2, kpw h3, kpw h4, kpw h5, kpw h6, fun _ => by simp [sput], kpw h8, kpw h9, kpw h10, kpw h11, kpw h12, kpw h13, kpw h14, fun h => by simpa [sput] using h15 (by simpa [did] using h), fun h => by simpa [sput] using h16 (by simpa [did] using h), kpw h17, fun h => by simpa [sput] using h18 (by simpa [did] using h), fun h => by simpa [sput] using h19 (by simpa [did] using h), kpw h20, kpw h21, kpw h22, hT⟩
    · as_aux_lemma =>
        have g7 := h7 (by simp [hdep])
        have g6 := h6 (by simp [hdep])
        refine stepG_on 6 11 true rfl rfl g6 ?_
        unfold OpSteps
        obtain ⟨p0, p1, p2, p3, p4⟩ := cells5 (Hx0.out.below hT Hx0.out.lt)
        simp [go_sem, evS, g7, g6, p0, p1, p2, p3, p4]
        exact ⟨kpw h0, kpw h1, kpw h2, kpw h3, kpw h4, kpw h5, kpw h6, kpw h7, fun _ => by simp [sput], kpw h9, kpw h10, kpw h11, kpw h12, kpw h13, kpw h14, fun h => by simpa [sput] using h15 (by simpa [did] using h), fun h => by simpa [sput] using h16 (by simpa [did] using h), kpw h17, fun h => by simpa [sput] using h18 (by simpa [did] using h), fun h => by simpa [sput] using h19 (by simpa [did] using h), kpw h20, kpw h21, kpw h22, hT⟩
    · as_aux_lemma =>
        have g6 := h6 (by simp [hdep])
        refine stepG_on 6 11 true rfl rfl g6 ?_
        unfold OpSteps
        simp [go_sem, evS, f3, g6]
        exact ⟨kpw h0, kpw h1, kpw h2, kpw h3, kpw h4, kpw h5, kpw h6, kpw h7, kpw h8, fun _ => by simp [sput], kpw h10, kpw h11, kpw h12, kpw h13, kpw h14, fun h => by simpa [sput] using h15 (by simpa [did] using h), fun h => by simpa [sput] using h16 (by simpa [did] using h), kpw h17, fun h => by simpa [sput] using h18 (by simpa [did] using h), fun h => by simpa [sput] using h19 (by simpa [did] using h), kpw h20, kpw h21, kpw h22, hT⟩
    · as_aux_lemma =>
        have g9 := h9 (by simp [hdep])
        have g6 := h6 (by simp [hdep])
        refine stepG_on 6 11 true rfl rfl g6 ?_
        unfold OpSteps
        obtain ⟨p0, p1, p2, p3, p4⟩ := cells5 (Hy0.out.below hT Hy0.out.lt)
        simp [go_sem, evS, g9, g6, p0, p1, p2, p3, p4]
        exact ⟨kpw h0, kpw h1, kpw h2, kpw h3, kpw h4, kpw h5, kpw h6, kpw h7, kpw h8, kpw h9, fun _ => by simp [sput], kpw h11, kpw h12, kpw h13, kpw h14, fun h => by simpa [sput] using h15 (by simpa [did] using h), fun h => by simpa [sput] using h16 (by simpa [did] using h), kpw h17, fun h => by simpa [sput] using h18 (by simpa [did] using h), fun h => by simpa [sput] using h19 (by simpa [did] using h), kpw h20, kpw h21, kpw h22, hT⟩
    · as_aux_lemma =>
        have g8 := h8 (by simp [hdep])
        have g10 := h10 (by simp [hdep])
        have g6 := h6 (by simp [hdep])
        refine stepG_on 6 11 true rfl rfl g6 ?_
        unfold OpSteps
        simp [go_sem, evS, g8, g10, g6]
        exact ⟨kpw h0, kpw h1, kpw h2, kpw h3, kpw h4, kpw h5, kpw h6, kpw h7, kpw h8, kpw h9, kpw h10, fun _ => by simp [sput], kpw h12, kpw h13, kpw h14, fun h => by simpa [sput] using h15 (by simpa [did] using h), fun h => by simpa [sput] using h16 (by simpa [did] using h), kpw h17, fun h => by simpa [sput] using h18 (by simpa [did] using h), fun h => by simpa [sput] using h19 (by simpa [did] using h), kpw h20, kpw h21, kpw h22, hT⟩
    · as_aux_lemma =>
        have g6 := h6 (by simp [hdep])
        have g11 := h11 (by simp [hdep])
        refine stepG_plain rfl ?_
        unfold OpSteps
        simp [go_sem, evS, g6, g11]
        exact ⟨kpw h0, kpw h1, kpw h2, kpw h3, kpw h4, kpw h5, kpw h6, kpw h7, kpw h8, kpw h9, kpw h10, kpw h11, fun _ => by simp [sput], kpw h13, kpw h14, fun h => by simpa [sput] using h15 (by simpa [did] using h), fun h => by simpa [sput] using h16 (by simpa [did] using h), kpw h17, fun h => by simpa [sput] using h18 (by simpa [did] using h), fun h => by simpa [sput] using h19 (by simpa [did] using h), kpw h20, kpw h21, kpw h22, hT⟩
    · as_aux_lemma =>
        have g12 := h12 (by simp [hdep])
        refine stepG_plain rfl ?_
        unfold OpSteps
        simp [go_sem, evS, g12]
        exact ⟨kpw h0, kpw h1, kpw h2, kpw h3, kpw h4, kpw h5, kpw h6, kpw h7, kpw h8, kpw h9, kpw h10, kpw h11, kpw h12, fun _ => by simp [sput], kpw h14, fun h => by simpa [sput] using h15 (by simpa [did] using h), fun h => by simpa [sput] using h16 (by simpa [did] using h), kpw h17, fun h => by simpa [sput] using h18 (by simpa [did] using h), fun h => by simpa [sput] using h19 (by simpa [did] using h), kpw h20, kpw h21, kpw h22, hT⟩
    · as_aux_lemma =>
        have g13 := h13 (by simp [hdep])
        refine stepG_on 13 18 true rfl rfl g13 ?_
        unfold OpSteps
        obtain ⟨p0, p1, p2, p3, p4⟩ := cells5 (Hx0.out.below hT Hx0.out.lt)
        simp [go_sem, evS, f2, g13, p0, p1, p2, p3, p4]
        exact ⟨kpw h0, kpw h1, kpw h2, kpw h3, kpw h4, kpw h5, kpw h6, kpw h7, kpw h8, kpw h9, kpw h10, kpw h11, kpw h12, kpw h13, fun _ => by simp [sput], fun h => by simpa [sput] using h15 (by simpa [did] using h), fun h => by simpa [sput] using h16 (by simpa [did] using h), kpw h17, fun h => by simpa [sput] using h18 (by simpa [did] using h), fun h => by simpa [sput] using h19 (by simpa [did] using h), kpw h20, kpw h21, kpw h22, hT⟩
    · as_aux_lemma =>
        have g14 := h14 (by simp [hdep])
        have g13 := h13 (by simp [hdep])
        refine stepG_on 13 18 true rfl rfl g13 ?_
        unfold OpSteps
        simp [go_sem, evS, g14, g13]
        refine (HOx.out W (below_nx HB0.out hT)).mono ?_
        rintro e W' ⟨g9, T9, rfl, hS9, hr9, hb⟩
        refine ⟨_, rfl, ?_⟩
        exact ⟨kpw h0, kpw h1, kpw h2, kpw h3, kpw h4, kpw h5, kpw h6, kpw h7, kpw h8, kpw h9, kpw h10, kpw h11, kpw h12, kpw h13, kpw h14, fun _ => ⟨g9, N, T9, by simp [sput], hS9, hr9⟩, fun h => by simpa [sput] using (h16 (by simpa [did] using h)).below hb, kpw h17, fun h => by simpa [sput] using (h18 (by simpa [did] using h)).below hb, fun h => by simpa [sput] using (h19 (by simpa [did] using h)).below hb, kpw h20, kpw h21, kpw h22, below_nx hT hb⟩
    · as_aux_lemma =>
        have g15 := h15 (by simp [hdep])
        have g13 := h13 (by simp [hdep])
        refine stepG_on 13 18 true rfl rfl g13 ?_
        unfold OpSteps
        obtain ⟨q9, c9, T9, gv9, gS9, gR9⟩ := g15
        simp [go_sem, evS, g13, gv9]
        exact ⟨kpw h0, kpw h1, kpw h2, kpw h3, kpw h4, kpw h5, kpw h6, kpw h7, kpw h8, kpw h9, kpw h10, kpw h11, kpw h12, kpw h13, kpw h14, fun h => by simpa [sput] using h15 (by simpa [did] using h), fun _ => ⟨some ⟨q9, 0, none⟩, c9, T9, by simp [sput], gS9, gR9⟩, kpw h17, fun h => by simpa [sput] using h18 (by simpa [did] using h), fun h => by simpa [sput] using h19 (by simpa [did] using h), kpw h20, kpw h21, kpw h22, hT⟩
    · as_aux_lemma =>
        have g13 := h13 (by simp [hdep])
        refine stepG_on 13 18 true rfl rfl g13 ?_
        unfold OpSteps
        obtain ⟨p0, p1, p2, p3, p4⟩ := cells5 (Hy0.out.below hT Hy0.out.lt)
        simp [go_sem, evS, f3, g13, p0, p1, p2, p3, p4]
        exact ⟨kpw h0, kpw h1, kpw h2, kpw h3, kpw h4, kpw h5, kpw h6, kpw h7, kpw h8, kpw h9, kpw h10, kpw h11, kpw h12, kpw h13, kpw h14, fun h => by simpa [sput] using h15 (by simpa [did] using h), fun h => by simpa [sput] using h16 (by simpa [did] using h), fun _ => by simp [sput], fun h => by simpa [sput] using h18 (by simpa [did] using h), fun h => by simpa [sput] using h19 (by simpa [did] using h), kpw h20, kpw h21, kpw h22, hT⟩
    · as_aux_lemma =>
        have g17 := h17 (by simp [hdep])
        have g13 := h13 (by simp [hdep])
        refine stepG_on 13 18 true rfl rfl g13 ?_
        unfold OpSteps
        simp [go_sem, evS, g17, g13]
        refine (HOy.out W (below_nx HB0.out hT)).mono ?_
        rintro e W' ⟨g9, T9, rfl, hS9, hr9, hb⟩
        refine ⟨_, rfl, ?_⟩
        exact ⟨kpw h0, kpw h1, kpw h2, kpw h3, kpw h4, kpw h5, kpw h6, kpw h7, kpw h8, kpw h9, kpw h10, kpw h11, kpw h12, kpw h13, kpw h14, fun h => by simpa [sput] using (h15 (by simpa [did] using h)).below hb, fun h => by simpa [sput] using (h16 (by simpa [did] using h)).below hb, kpw h17, fun _ => ⟨g9, N, T9, by simp [sput], hS9, hr9⟩, fun h => by simpa [sput] using (h19 (by simpa [did] using h)).below hb, kpw h20, kpw h21, kpw h22, below_nx hT hb⟩
    · as_aux_lemma =>
        have g18 := h18 (by simp [hdep])
        have g13 := h13 (by simp [hdep])
        refine stepG_on 13 18 true rfl rfl g13 ?_
        unfold OpSteps
        obtain ⟨q9, c9, T9, gv9, gS9, gR9⟩ := g18
        simp [go_sem, evS, g13, gv9]
        exact ⟨kpw h0, kpw h1, kpw h2, kpw h3, kpw h4, kpw h5, kpw h6, kpw h7, kpw h8, kpw h9, kpw h10, kpw h11, kpw h12, kpw h13, kpw h14, fun h => by simpa [sput] using h15 (by simpa [did] using h), fun h => by simpa [sput] using h16 (by simpa [did] using h), kpw h17, fun h => by simpa [sput] using h18 (by simpa [did] using h), fun _ => ⟨some ⟨q9, 0, none⟩, c9, T9, by simp [sput], gS9, gR9⟩, kpw h20, kpw h21, kpw h22, hT⟩
    · as_aux_lemma =>
        have g16 := h16 (by simp [hdep])
        have g19 := h19 (by simp [hdep])
        have g13 := h13 (by simp [hdep])
        refine stepG_on 13 18 true rfl rfl g13 ?_
        unfold OpSteps
        obtain ⟨B9, d9, T9, gv9, gS9, gR9⟩ := g16
        obtain ⟨B8, d8, T8, gv8, gS8, gR8⟩ := g19
        simp [go_sem, evS, g13, gv9, gv8]
        refine (HSm.out B9 d9 T9 B8 d8 T8 W gS9 gS8 gR9 gR8).mono ?_
        rintro e W' ⟨rfl, hb⟩
        refine ⟨_, rfl, ?_⟩
        exact ⟨kpw h0, kpw h1, kpw h2, kpw h3, kpw h4, kpw h5, kpw h6, kpw h7, kpw h8, kpw h9, kpw h10, kpw h11, kpw h12, kpw h13, kpw h14, fun h => by simpa [sput] using (h15 (by simpa [did] using h)).below hb, fun h => by simpa [sput] using (h16 (by simpa [did] using h)).below hb, kpw h17, fun h => by simpa [sput] using (h18 (by simpa [did] using h)).below hb, fun h => by simpa [sput] using (h19 (by simpa [did] using h)).below hb, fun _ => by simp [sput], kpw h21, kpw h22, below_nx hT hb⟩
    · as_aux_lemma =>
        have g13 := h13 (by simp [hdep])
        have g20 := h20 (by simp [hdep])
        refine stepG_plain rfl ?_
        unfold OpSteps
        simp [go_sem, evS, g13, g20]
        exact ⟨kpw h0, kpw h1, kpw h2, kpw h3, kpw h4, kpw h5, kpw h6, kpw h7, kpw h8, kpw h9, kpw h10, kpw h11, kpw h12, kpw h13, kpw h14, fun h => by simpa [sput] using h15 (by simpa [did] using h), fun h => by simpa [sput] using h16 (by simpa [did] using h), kpw h17, fun h => by simpa [sput] using h18 (by simpa [did] using h), fun h => by simpa [sput] using h19 (by simpa [did] using h), kpw h20, fun _ => by simp [sput], kpw h22, hT⟩
    · as_aux_lemma =>
        have g21 := h21 (by simp [hdep])
        refine stepG_plain rfl ?_
        unfold OpSteps
        simp [go_sem, evS, g21]
        exact ⟨kpw h0, kpw h1, kpw h2, kpw h3, kpw h4, kpw h5, kpw h6, kpw h7, kpw h8, kpw h9, kpw h10, kpw h11, kpw h12, kpw h13, kpw h14, fun h => by simpa [sput] using h15 (by simpa [did] using h), fun h => by simpa [sput] using h16 (by simpa [did] using h), kpw h17, fun h => by simpa [sput] using h18 (by simpa [did] using h), fun h => by simpa [sput] using h19 (by simpa [did] using h), kpw h20, kpw h21, fun _ => by simp [sput], hT⟩
  intro d s W hJ hd
  obtain ⟨h0, h1, h2, h3, h4, h5, h6, h7, h8, h9, h10, h11, h12, h13, h14, h15, h16, h17, h18, h19, h20, h21, h22, hT⟩ := hJ
  have hs4 := h22 (hd 22 (by decide))
  have HB9 := Lib.hid (below_nx HB0.out hT)
  clear h0 h1 h2 h3 h4 h5 h6 h7 h8 h9 h10 h11 h12 h13 h14 h15 h16 h17 h18 h19 h20 h21 h22 hT hd
  simp [setAll, hs4]
  clear hs4
  generalize s 5 = s5
  generalize s 6 = s6
  generalize s 7 = s7
  generalize s 8 = s8
  generalize s 9 = s9
  generalize s 10 = s10
  generalize s 11 = s11
  generalize s 12 = s12
  generalize s 13 = s13
  generalize s 14 = s14
  generalize s 15 = s15
  generalize s 16 = s16
  generalize s 17 = s17
  generalize s 18 = s18
  generalize s 19 = s19
  generalize s 20 = s20
  generalize s 21 = s21
  generalize s 22 = s22
  generalize s 23 = s23
  generalize s 24 = s24
  generalize s 25 = s25
  generalize s 26 = s26
  generalize W = wg at *
  go_wp2_with fail
  go_ret
  exact ⟨rfl, HB9.out⟩
end Go.Proofs.Ytbbgldelebgnfaa
