/-
Equil: what Factors hands in: a line, the size of a number. Conditions: as each says.
-/
import Derived.Test.YtelpdbkkefpjhaaZKEqB
import Derived.Test.YtelpdbkkefpjhaaZKFn
import Derived.Test.YtelpdbkkefpjhaaWKl
set_option linter.unusedVariables false
set_option linter.unusedSimpArgs false
set_option linter.unnecessarySimpa false
namespace Go.Proofs.Ytelpdbkkefpjhaa
open Go.RowKit
attribute [local go_sem ↓] Go.wp_at_zero Go.wp_at_succ

def rowP (o C i : Nat) : Nat := if C = 0 then o else o + i
def colP (o L R j : Nat) : Nat := if R = 0 then o else o + j * L
/-- The number at row i and column j. -/
def tX (l : List Nat) (o L i j : Nat) : Nat := l.getD (o + i + j * L) 0
theorem tX_lt {l : List Nat} (h : Wds l) (o L i j : Nat) : tX l o L i j < 18446744073709551616 := getD_wds h _

theorem eqpart_row (A : Option Addr) (n c o R C L i : Nat) (w : World) (hn : n < 1048576) (hoI : I64 o) (hLI : I64 L) (hR : R ≤ 64) (hC : C ≤ 64) (hL1 : 1 ≤ L) (hRL : R ≤ L) (hmr : R = 0 ∨ C = 0 ∨ o + (C - 1) * L + (R - 1) < n) (hi : i < R) :
    Calls Try.prog 27 #[mat A n c o R C L, .int .i64 (i : Int), .int .i64 0, .int .i64 1, .int .i64 (C : Int)] w fun e w' => e = .returned (mat A n c ((rowP o C i : Nat) : Int) 1 C L) ∧ Below w.heap.size w w' := by
  have h := part_some A n c o R C L i 0 1 C w (by omega) hoI (by unfold I64; omega) (by unfold I64; omega) hLI (by unfold I64; omega) (by unfold I64; omega) (by unfold I64; omega) (by unfold I64; omega) (by
    unfold partB
    rw [mat_right hL1 hRL hmr]
    have e1 : fitsB (i : Int) 1 (R : Int) = true := decide_eq_true (by omega)
    have e2 : fitsB 0 (C : Int) (C : Int) = true := decide_eq_true (by omega)
    rw [e1, e2]; rfl)
  have hof : partOff (o : Int) (L : Int) (i : Int) 0 1 (C : Int) = ((rowP o C i : Nat) : Int) := by
    unfold partOff rowP
    by_cases h0 : C = 0
    · subst h0; simp
    · rw [if_neg (by omega), if_neg h0]; simp
  rw [hof] at h
  exact h
theorem eqpart_col (A : Option Addr) (n c o R C L j : Nat) (w : World) (hn : n < 1048576) (hoI : I64 o) (hLI : I64 L) (hR : R ≤ 64) (hC : C ≤ 64) (hL1 : 1 ≤ L) (hRL : R ≤ L) (hmr : R = 0 ∨ C = 0 ∨ o + (C - 1) * L + (R - 1) < n) (hj : j < C) :
    Calls Try.prog 27 #[mat A n c o R C L, .int .i64 0, .int .i64 (j : Int), .int .i64 (R : Int), .int .i64 1] w fun e w' => e = .returned (mat A n c ((colP o L R j : Nat) : Int) R 1 L) ∧ Below w.heap.size w w' := by
  have h := part_some A n c o R C L 0 j R 1 w (by omega) hoI (by unfold I64; omega) (by unfold I64; omega) hLI (by unfold I64; omega) (by unfold I64; omega) (by unfold I64; omega) (by unfold I64; omega) (by
    unfold partB
    rw [mat_right hL1 hRL hmr]
    have e1 : fitsB 0 (R : Int) (R : Int) = true := decide_eq_true (by omega)
    have e2 : fitsB (j : Int) 1 (C : Int) = true := decide_eq_true (by omega)
    rw [e1, e2]; rfl)
  have hof : partOff (o : Int) (L : Int) 0 (j : Int) (R : Int) 1 = ((colP o L R j : Nat) : Int) := by
    unfold partOff colP
    by_cases h0 : R = 0
    · subst h0; simp
    · rw [if_neg (by omega), if_neg h0]; simp
  rw [hof] at h
  exact h
theorem eqnum_row (A : Option Addr) (n c : Nat) (l : List Nat) (o R C L i : Nat) (w : World) (hA : Row w A (f64s l)) (hl : l.length = n) (hnc : n ≤ c) (hn : n < 1048576) (hoI : I64 o) (hLI : I64 L) (hR : R ≤ 64) (hC : C ≤ 64) (hL1 : 1 ≤ L) (hRL : R ≤ L) (hmr : R = 0 ∨ C = 0 ∨ o + (C - 1) * L + (R - 1) < n) (hi : i < R) :
    Calls Try.prog 54 #[mat A n c ((rowP o C i : Nat) : Int) 1 C L] w fun e w' => ∃ B d, e = .returned (.slice B C d) ∧ Row w' B (f64s (colsL l (rowP o C i) 1 L C)) ∧ Below w.heap.size w w' := by
  have hP : rowP o C i < 9223372036854775808 ∧ (1 = 0 ∨ C = 0 ∨ rowP o C i + (C - 1) * L + (1 - 1) < n) := by
    unfold I64 at hoI
    unfold rowP
    by_cases h0 : C = 0
    · rw [if_pos h0]; exact ⟨by omega, .inr (.inl h0)⟩
    · rw [if_neg h0]
      generalize (C - 1) * L = z at *
      exact ⟨by omega, .inr (.inr (by omega))⟩
  unfold I64 at hLI
  refine (numbers_any A n c l (rowP o C i) 1 C L C w hA hl hnc hn ⟨hP.1, by omega, by omega, by omega⟩ (by omega) hL1 (by omega) hP.2).mono ?_
  rintro e w' ⟨B, d, h1, h2, _, h3⟩
  exact ⟨B, d, h1, h2, h3⟩
theorem eqnum_col (A : Option Addr) (n c : Nat) (l : List Nat) (o R C L j : Nat) (w : World) (hA : Row w A (f64s l)) (hl : l.length = n) (hnc : n ≤ c) (hn : n < 1048576) (hoI : I64 o) (hLI : I64 L) (hR : R ≤ 64) (hC : C ≤ 64) (hL1 : 1 ≤ L) (hRL : R ≤ L) (hmr : R = 0 ∨ C = 0 ∨ o + (C - 1) * L + (R - 1) < n) (hj : j < C) :
    Calls Try.prog 54 #[mat A n c ((colP o L R j : Nat) : Int) R 1 L] w fun e w' => ∃ B d, e = .returned (.slice B R d) ∧ Row w' B (f64s (colsL l (colP o L R j) R L 1)) ∧ Below w.heap.size w w' := by
  have hP : colP o L R j < 9223372036854775808 ∧ (R = 0 ∨ 1 = 0 ∨ colP o L R j + (1 - 1) * L + (R - 1) < n) := by
    unfold I64 at hoI
    unfold colP
    by_cases h0 : R = 0
    · rw [if_pos h0]; exact ⟨by omega, .inl h0⟩
    · rw [if_neg h0]
      have h1 : j * L ≤ (C - 1) * L := Nat.mul_le_mul_right _ (by omega)
      generalize (C - 1) * L = z at *
      generalize j * L = y at *
      exact ⟨by omega, .inr (.inr (by omega))⟩
  unfold I64 at hLI
  refine (numbers_any A n c l (colP o L R j) R 1 L R w hA hl hnc hn ⟨hP.1, by omega, by omega, by omega⟩ (by omega) hL1 hRL hP.2).mono ?_
  rintro e w' ⟨B, d, h1, h2, _, h3⟩
  exact ⟨B, d, h1, h2, h3⟩
theorem row_at (l : List Nat) (o L C i : Nat) {j : Nat} (hj : j < C) : (colsL l (rowP o C i) 1 L C).getD j 0 = tX l o L i j := by
  have h := colsL_getD l (rowP o C i) 1 L (a := 0) (b := j) (by omega) hj
  rw [Nat.mul_one, Nat.add_zero, Nat.add_zero] at h
  rw [h]
  unfold tX rowP
  rw [if_neg (by omega)]
theorem col_at (l : List Nat) (o L R j : Nat) {i : Nat} (hi : i < R) : (colsL l (colP o L R j) R L 1).getD i 0 = tX l o L i j := by
  have h := colsL_getD l (colP o L R j) R L (a := i) (b := 0) (j := 1) hi (by omega)
  rw [Nat.zero_mul, Nat.zero_mul, Nat.zero_add, Nat.add_zero] at h
  rw [h]
  unfold tX colP
  rw [if_neg (by omega)]
  congr 1
  omega

theorem eqf1_enters : Enters Try.prog 26 := enters_of Try.func26 (by kernel_rfl) rfl
theorem eqf2_enters : Enters Try.prog 28 := enters_of Try.func28 (by kernel_rfl) rfl
theorem eqf3_enters : Enters Try.prog 30 := enters_of Try.func30 (by kernel_rfl) rfl
theorem eqf4_enters : Enters Try.prog 31 := enters_of Try.func31 (by kernel_rfl) rfl

theorem eqsz_one (k x : Nat) (w : World) (hx : x < 18446744073709551616) :
    Calls Try.prog 28 #[.int .i64 (k : Int), .float .f64 x] w fun e w' => e = .returned (.int .i64 (expOf x)) ∧ Below w.heap.size w w' := by
  have HE := Lib.hid (fun W => exp_any x W hx)
  clear hx
  go_enter Try.func28, Try.ntmps28
  go_wp2_with fail
  refine (HE.out _).mono ?_
  rintro e w1 ⟨rfl, hb⟩
  have HB := Lib.hid hb
  clear hb
  go_wp2_with fail
  go_ret
  exact ⟨rfl, HB.out⟩

set_option maxHeartbeats 2000000 in
theorem eqrow_one (p : Nat) (A : Option Addr) (n c o R C L i : Nat) (w : World) (hp : Blk w p 24 #[.slice A n c, .int .i64 o, .int .i64 R, .int .i64 C, .int .i64 L]) (hn : n < 1048576) (hoI : I64 o) (hLI : I64 L) (hR : R ≤ 64) (hC : C ≤ 64) (hL1 : 1 ≤ L) (hRL : R ≤ L) (hmr : R = 0 ∨ C = 0 ∨ o + (C - 1) * L + (R - 1) < n) (hi : i < R) :
    Calls Try.prog 26 #[.int .i64 (i : Int), .pointer (some ⟨p, 0, none⟩)] w fun e w' => e = .returned (mat A n c ((rowP o C i : Nat) : Int) 1 (C : Int) L) ∧ Below w.heap.size w w' := by
  have HPt := Lib.hid (fun W => eqpart_row A n c o R C L i W hn hoI hLI hR hC hL1 hRL hmr hi)
  have HZ0 := Lib.hid (hp.alloc (.cells #[.slice none 0 0, .int .i64 0, .int .i64 0, .int .i64 0, .int .i64 0] 24))
  have HT0 := Lib.hid (Blk.new w 24 #[.slice none 0 0, .int .i64 0, .int .i64 0, .int .i64 0, .int .i64 0])
  have HB0 := Lib.hid ((Below.refl w.heap.size w).alloc (Nat.le_refl _) (.cells #[.slice none 0 0, .int .i64 0, .int .i64 0, .int .i64 0, .int .i64 0] 24))
  obtain ⟨P, hP⟩ : ∃ P, rowP o C i = P := ⟨_, rfl⟩
  rw [hP] at HPt
  rw [hP]
  clear hp hn hoI hLI hR hC hL1 hRL hmr hi hP
  unfold mat at *
  obtain ⟨c0, c1, c2, c3, c4⟩ := cells5 HZ0.out
  go_enter Try.func26, Try.ntmps26
  go_wp2_with fail
  refine (HPt.out _).mono ?_
  rintro e w1 ⟨rfl, hb⟩
  have HB1 := Lib.hid (below_nx HB0.out hb)
  have HT1 := Lib.hid (HT0.out.nxt hb)
  clear hb c0 c1 c2 c3 c4
  obtain ⟨t0, t1, t2, t3, t4⟩ := cells5 HT1.out
  obtain ⟨f0, f1, f2, f3, f4⟩ := frozen5 HT1.out
  have HSt := Lib.hid (HT1.out.store5 (.slice A n c) (.int .i64 (P : Int)) (.int .i64 1) (.int .i64 (C : Int)) (.int .i64 (L : Int)))
  have HBe := Lib.hid (below_sets5 HB1.out (Nat.le_refl w.heap.size) (.slice A n c) (.int .i64 (P : Int)) (.int .i64 1) (.int .i64 (C : Int)) (.int .i64 (L : Int)))
  go_wp2_with fail
  obtain ⟨j0, j1, j2, j3, j4⟩ := cells5 HSt.out
  exact bodyPost_ret (v := .agg #[.slice A n c, .int .i64 (P : Int), .int .i64 1, .int .i64 (C : Int), .int .i64 (L : Int)]) (by simp [results, Try.results26, go_sem, j0, j1, j2, j3, j4]) rfl ⟨rfl, HBe.out⟩

set_option maxHeartbeats 2000000 in
theorem eqcol_one (p : Nat) (A : Option Addr) (n c o R C L j : Nat) (w : World) (hp : Blk w p 24 #[.slice A n c, .int .i64 o, .int .i64 R, .int .i64 C, .int .i64 L]) (hn : n < 1048576) (hoI : I64 o) (hLI : I64 L) (hR : R ≤ 64) (hC : C ≤ 64) (hL1 : 1 ≤ L) (hRL : R ≤ L) (hmr : R = 0 ∨ C = 0 ∨ o + (C - 1) * L + (R - 1) < n) (hi : j < C) :
    Calls Try.prog 30 #[.int .i64 (j : Int), .pointer (some ⟨p, 0, none⟩)] w fun e w' => e = .returned (mat A n c ((colP o L R j : Nat) : Int) (R : Int) 1 L) ∧ Below w.heap.size w w' := by
  have HPt := Lib.hid (fun W => eqpart_col A n c o R C L j W hn hoI hLI hR hC hL1 hRL hmr hi)
  have HZ0 := Lib.hid (hp.alloc (.cells #[.slice none 0 0, .int .i64 0, .int .i64 0, .int .i64 0, .int .i64 0] 24))
  have HT0 := Lib.hid (Blk.new w 24 #[.slice none 0 0, .int .i64 0, .int .i64 0, .int .i64 0, .int .i64 0])
  have HB0 := Lib.hid ((Below.refl w.heap.size w).alloc (Nat.le_refl _) (.cells #[.slice none 0 0, .int .i64 0, .int .i64 0, .int .i64 0, .int .i64 0] 24))
  obtain ⟨P, hP⟩ : ∃ P, colP o L R j = P := ⟨_, rfl⟩
  rw [hP] at HPt
  rw [hP]
  clear hp hn hoI hLI hR hC hL1 hRL hmr hi hP
  unfold mat at *
  obtain ⟨c0, c1, c2, c3, c4⟩ := cells5 HZ0.out
  go_enter Try.func30, Try.ntmps30
  go_wp2_with fail
  refine (HPt.out _).mono ?_
  rintro e w1 ⟨rfl, hb⟩
  have HB1 := Lib.hid (below_nx HB0.out hb)
  have HT1 := Lib.hid (HT0.out.nxt hb)
  clear hb c0 c1 c2 c3 c4
  obtain ⟨t0, t1, t2, t3, t4⟩ := cells5 HT1.out
  obtain ⟨f0, f1, f2, f3, f4⟩ := frozen5 HT1.out
  have HSt := Lib.hid (HT1.out.store5 (.slice A n c) (.int .i64 (P : Int)) (.int .i64 (R : Int)) (.int .i64 1) (.int .i64 (L : Int)))
  have HBe := Lib.hid (below_sets5 HB1.out (Nat.le_refl w.heap.size) (.slice A n c) (.int .i64 (P : Int)) (.int .i64 (R : Int)) (.int .i64 1) (.int .i64 (L : Int)))
  go_wp2_with fail
  obtain ⟨j0, j1, j2, j3, j4⟩ := cells5 HSt.out
  exact bodyPost_ret (v := .agg #[.slice A n c, .int .i64 (P : Int), .int .i64 (R : Int), .int .i64 1, .int .i64 (L : Int)]) (by simp [results, Try.results30, go_sem, j0, j1, j2, j3, j4]) rfl ⟨rfl, HBe.out⟩

set_option maxRecDepth 100000 in
set_option maxHeartbeats 1000000 in
theorem eqsz_two (i x nr cr : Nat) (A1 : Option Addr) (rl : Nat → Int) (pr : Nat) (w : World) (hp : w.cell? ⟨pr, 0, none⟩ = some (.slice A1 nr cr)) (hA : Row w A1 (i64s (cnt rl nr))) (hi : i < nr) (hx : x < 18446744073709551616) (hr : -1074 ≤ rl i ∧ rl i ≤ 1074) :
    Calls Try.prog 31 #[.int .i64 (i : Int), .float .f64 x, .pointer (some ⟨pr, 0, none⟩)] w fun e w' => e = .returned (.int .i64 (expOf x + rl i)) ∧ Below w.heap.size w w' := by
  have hgt := i64s_get (cnt rl nr) i (by rw [cnt_length]; exact hi)
  have hgi : (cnt rl nr)[i]'(by rw [cnt_length]; exact hi) = rl i := by simp [cnt]
  rw [hgi] at hgt
  obtain ⟨br, r0, rfl, _, hcell⟩ := hA.at_ hgt
  have he := expOf_bounds x
  have hex := fun W => exp_any x W hx
  obtain ⟨kr, hkr⟩ : ∃ kr, rl i = kr := ⟨_, rfl⟩
  rw [hkr] at hcell hr
  rw [hkr]
  obtain ⟨ze, hze⟩ : ∃ ze, expOf x = ze := ⟨_, rfl⟩
  rw [hze] at he hex
  rw [hze]
  obtain ⟨zs, hzs⟩ : ∃ zs, ze + kr = zs := ⟨_, rfl⟩
  have wz2 : IntKind.i64.wrap (ze + kr) = zs := by rw [hzs]; exact wrapi (by omega) (by omega)
  have wz : wrap64 (ze + kr) = zs := by rw [hzs]; exact wrap_id (by unfold I64; omega)
  rw [hzs]
  have HEx := Lib.hid hex
  have HKr := Lib.hid hp
  have HCr := Lib.hid hcell
  have b1 := hi
  clear hgt hgi hex he hkr hze hzs hp hcell hr hi hx hA
  go_enter Try.func31, Try.ntmps31
  go_wp2_with fail
  refine wp_region_inv [6, 7, 8, 9, 10, 11, 12, 5] (fun d s W => (d 0 = true → s 6 = .float .f64 x) ∧ (d 1 = true → s 7 = .int .i64 ze) ∧ (d 2 = true → s 8 = .slice (some ⟨br, r0, none⟩) nr cr) ∧ (d 3 = true → s 9 = .int .i64 (i : Int)) ∧ (d 4 = true → s 10 = .pointer (some ⟨br, r0 + i, none⟩)) ∧ (d 5 = true → s 11 = .int .i64 kr) ∧ (d 6 = true → s 12 = .int .i64 zs) ∧ (d 7 = true → s 5 = .int .i64 zs) ∧ Below w.heap.size w W)
    rfl (by kernel_rfl) ?_ ?_ ?_
  · exact ⟨by simp, by simp, by simp, by simp, by simp, by simp, by simp, by simp, (Below.refl _ _).drew⟩
  · refine ⟨?_, ?_, ?_, ?_, ?_, ?_, ?_, ?_, trivial⟩
    all_goals
      intro d s W hJ hfr hd hdep
      simp only [List.mem_cons, forall_eq_or_imp, List.not_mem_nil, false_implies, implies_true, and_true, Region.binds] at hdep
      have f0 := hfr 0 (by decide)
      have f1 := hfr 1 (by decide)
      have f2 := hfr 2 (by decide)
      simp at f0 f1 f2 hdep
      obtain ⟨h0, h1, h2, h3, h4, h5, h6, h7, hT⟩ := hJ
    · unfold OpSteps
      simp [go_sem, evS, f1]
      exact ⟨fun _ => by simp [sput], fun h => by simpa [sput] using h1 (by simpa [did] using h), fun h => by simpa [sput] using h2 (by simpa [did] using h), fun h => by simpa [sput] using h3 (by simpa [did] using h), fun h => by simpa [sput] using h4 (by simpa [did] using h), fun h => by simpa [sput] using h5 (by simpa [did] using h), fun h => by simpa [sput] using h6 (by simpa [did] using h), fun h => by simpa [sput] using h7 (by simpa [did] using h), hT⟩
    · have g0 := h0 (by simp [hdep])
      unfold OpSteps
      simp [go_sem, evS, g0]
      refine (HEx.out W).mono ?_
      rintro e W' ⟨rfl, hb⟩
      refine ⟨_, rfl, ?_⟩
      exact ⟨fun h => by simpa [sput] using h0 (by simpa [did] using h), fun _ => by simp [sput], fun h => by simpa [sput] using h2 (by simpa [did] using h), fun h => by simpa [sput] using h3 (by simpa [did] using h), fun h => by simpa [sput] using h4 (by simpa [did] using h), fun h => by simpa [sput] using h5 (by simpa [did] using h), fun h => by simpa [sput] using h6 (by simpa [did] using h), fun h => by simpa [sput] using h7 (by simpa [did] using h), below_nx hT hb⟩
    · unfold OpSteps
      have pc := cell_below HKr.out hT
      simp [go_sem, evS, f2, pc]
      exact ⟨fun h => by simpa [sput] using h0 (by simpa [did] using h), fun h => by simpa [sput] using h1 (by simpa [did] using h), fun _ => by simp [sput], fun h => by simpa [sput] using h3 (by simpa [did] using h), fun h => by simpa [sput] using h4 (by simpa [did] using h), fun h => by simpa [sput] using h5 (by simpa [did] using h), fun h => by simpa [sput] using h6 (by simpa [did] using h), fun h => by simpa [sput] using h7 (by simpa [did] using h), hT⟩
    · unfold OpSteps
      simp [go_sem, evS, f0]
      exact ⟨fun h => by simpa [sput] using h0 (by simpa [did] using h), fun h => by simpa [sput] using h1 (by simpa [did] using h), fun h => by simpa [sput] using h2 (by simpa [did] using h), fun _ => by simp [sput], fun h => by simpa [sput] using h4 (by simpa [did] using h), fun h => by simpa [sput] using h5 (by simpa [did] using h), fun h => by simpa [sput] using h6 (by simpa [did] using h), fun h => by simpa [sput] using h7 (by simpa [did] using h), hT⟩
    · have g2 := h2 (by simp [hdep])
      have g3 := h3 (by simp [hdep])
      unfold OpSteps
      simp [go_sem, evS, g2, g3, b1]
      exact ⟨fun h => by simpa [sput] using h0 (by simpa [did] using h), fun h => by simpa [sput] using h1 (by simpa [did] using h), fun h => by simpa [sput] using h2 (by simpa [did] using h), fun h => by simpa [sput] using h3 (by simpa [did] using h), fun _ => by simp [sput], fun h => by simpa [sput] using h5 (by simpa [did] using h), fun h => by simpa [sput] using h6 (by simpa [did] using h), fun h => by simpa [sput] using h7 (by simpa [did] using h), hT⟩
    · have g4 := h4 (by simp [hdep])
      unfold OpSteps
      have pc := cell_below HCr.out hT
      simp [go_sem, evS, g4, pc]
      exact ⟨fun h => by simpa [sput] using h0 (by simpa [did] using h), fun h => by simpa [sput] using h1 (by simpa [did] using h), fun h => by simpa [sput] using h2 (by simpa [did] using h), fun h => by simpa [sput] using h3 (by simpa [did] using h), fun h => by simpa [sput] using h4 (by simpa [did] using h), fun _ => by simp [sput], fun h => by simpa [sput] using h6 (by simpa [did] using h), fun h => by simpa [sput] using h7 (by simpa [did] using h), hT⟩
    · have g1 := h1 (by simp [hdep])
      have g5 := h5 (by simp [hdep])
      unfold OpSteps
      simp [go_sem, evS, g1, g5, wz, wz2]
      exact ⟨fun h => by simpa [sput] using h0 (by simpa [did] using h), fun h => by simpa [sput] using h1 (by simpa [did] using h), fun h => by simpa [sput] using h2 (by simpa [did] using h), fun h => by simpa [sput] using h3 (by simpa [did] using h), fun h => by simpa [sput] using h4 (by simpa [did] using h), fun h => by simpa [sput] using h5 (by simpa [did] using h), fun _ => by simp [sput], fun h => by simpa [sput] using h7 (by simpa [did] using h), hT⟩
    · have g6 := h6 (by simp [hdep])
      unfold OpSteps
      simp [go_sem, evS, g6]
      exact ⟨fun h => by simpa [sput] using h0 (by simpa [did] using h), fun h => by simpa [sput] using h1 (by simpa [did] using h), fun h => by simpa [sput] using h2 (by simpa [did] using h), fun h => by simpa [sput] using h3 (by simpa [did] using h), fun h => by simpa [sput] using h4 (by simpa [did] using h), fun h => by simpa [sput] using h5 (by simpa [did] using h), fun h => by simpa [sput] using h6 (by simpa [did] using h), fun _ => by simp [sput], hT⟩
  intro d s W hJ hd
  obtain ⟨h0, h1, h2, h3, h4, h5, h6, h7, hT⟩ := hJ
  have hs := h7 (hd 7 (by decide))
  have HBe := Lib.hid hT
  clear h0 h1 h2 h3 h4 h5 h6 h7 hT hd
  simp [setAll, hs]
  clear hs
  go_wp2_with fail
  go_ret
  exact ⟨rfl, HBe.out⟩
end Go.Proofs.Ytelpdbkkefpjhaa
