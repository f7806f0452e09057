/-
GerEyes. Conditions: none.
-/
import Derived.Test.YtmjaakngiilmdaaZGrI
import Derived.Test.YtmjaakngiilmdaaZVwI
import Derived.Test.YtmjaakngiilmdaaZVwG
set_option linter.unusedVariables false
set_option linter.unusedSimpArgs false
set_option linter.unnecessarySimpa false
namespace Go.Proofs.Ytmjaakngiilmdaa
open Go.RowKit
attribute [local go_sem ↓] Go.wp_at_zero Go.wp_at_succ

set_option maxRecDepth 100000 in
set_option maxHeartbeats 2000000 in
theorem vat_own (g c n : Nat) (l : List Nat) (o R C L i j : Nat) (w : World) (hO : Own w g l) (hl : l.length = n) (hn : n < 1048576) (hLI : I64 L) (hRb : R < 1048576) (hCb : C < 1048576) (hL1 : 1 ≤ L) (hRL : R ≤ L) (hmr : R = 0 ∨ C = 0 ∨ o + (C - 1) * L + (R - 1) < n) (hi : i < R) (hj : j < C) :
    Calls Try.prog 34 #[mat (some ⟨g, 0, none⟩) n c o R C L, .int .i64 i, .int .i64 j] w fun e w' => e = .returned (.float .f64 (l.getD (o + i + j * L) 0)) ∧ Below w.heap.size w w' := by
  have hP := gr_lt hmr hi hj
  have HH := Lib.hid (fun W => holds_any (some ⟨g, 0, none⟩) n c o R C L i j W (by omega) (by unfold I64; omega) (by unfold I64; omega) (by unfold I64; omega) hLI)
  have ht : thereB n (o : Int) (R : Int) (C : Int) (L : Int) (i : Int) (j : Int) = true := by
    unfold thereB
    rw [mat_right hL1 hRL hmr]
    simp
    omega
  rw [ht] at HH
  have hjl : I64 ((j : Int) * (L : Int)) := by
    have e : (j : Int) * (L : Int) = ((j * L : Nat) : Int) := by simp
    rw [e]; unfold I64; omega
  have HP := Lib.hid (fun W => place_any (some ⟨g, 0, none⟩) n c o R C L i j ((o + i + j * L : Nat) : Int) W (by simp) (by unfold I64; omega) hjl (by unfold I64; omega))
  have hPl : o + i + j * L < l.length := by omega
  have HCe0 := Lib.hid (hO.get _ hPl)
  rw [← getD_of_lt hPl] at HCe0
  obtain ⟨v, hv⟩ : ∃ v, l.getD (o + i + j * L) 0 = v := ⟨_, rfl⟩
  rw [hv] at HCe0
  rw [hv]
  obtain ⟨P, hPd⟩ : ∃ P, o + i + j * L = P := ⟨_, rfl⟩
  rw [hPd] at HCe0 HP hP
  have b2 := hP
  have hgl := hO.lt
  clear hv hPd hP hPl hjl hO hl hn hLI hRb hCb hL1 hRL hmr hi hj ht
  unfold mat at *
  go_enter Try.func34, Try.ntmps34
  have HZ0 := Lib.hid (Blk.new w 26 #[.slice (some ⟨g, 0, none⟩) n c, .int .i64 o, .int .i64 R, .int .i64 C, .int .i64 L])
  have HB0 := Lib.hid ((Below.refl w.heap.size w).alloc (Nat.le_refl _) (.cells #[.slice (some ⟨g, 0, none⟩) n c, .int .i64 o, .int .i64 R, .int .i64 C, .int .i64 L] 26))
  obtain ⟨c0, c1, c2, c3, c4⟩ := cells5 HZ0.out
  go_wp2_with fail
  refine (HH.out _).mono ?_
  rintro e w1 ⟨rfl, hb⟩
  have HZ1 := Lib.hid (HZ0.out.nxt hb)
  have HB1' := Lib.hid (below_nx HB0.out hb)
  have HCe := Lib.hid (cell_below HCe0.out HB1'.out)
  clear hb c0 c1 c2 c3 c4
  obtain ⟨c0, c1, c2, c3, c4⟩ := cells5 HZ1.out
  go_wp2_with fail
  clear c0 c1 c2 c3 c4
  have HB1 := HB1'
  refine wp_region_inv [12, 13, 14, 15, 16, 17, 18, 19, 6] (fun d s W => (d 0 = true → s 12 = .pointer (some ⟨w.heap.size, 0, none⟩)) ∧ (d 1 = true → s 13 = .slice (some ⟨g, 0, none⟩) n c) ∧ (d 2 = true → s 14 = .agg #[.slice (some ⟨g, 0, none⟩) n c, .int .i64 (o : Int), .int .i64 (R : Int), .int .i64 (C : Int), .int .i64 (L : Int)]) ∧ (d 3 = true → s 15 = .int .i64 (i : Int)) ∧ (d 4 = true → s 16 = .int .i64 (j : Int)) ∧ (d 5 = true → s 17 = .int .i64 (P : Int)) ∧ (d 6 = true → s 18 = .pointer (some ⟨g, P, none⟩)) ∧ (d 7 = true → s 19 = .float .f64 v) ∧ (d 8 = true → s 6 = .float .f64 v) ∧ Below w1.heap.size w1 W)
    rfl (by kernel_rfl) ?_ ?_ ?_
  · exact ⟨by simp, by simp, by simp, by simp, by simp, by simp, by simp, by simp, by simp, (Below.refl _ _).drew⟩
  · refine ⟨?_, ?_, ?_, ?_, ?_, ?_, ?_, ?_, ?_, trivial⟩
    all_goals
      intro d s W hJ hfr hd hdep
      simp only [List.mem_cons, forall_eq_or_imp, List.not_mem_nil, false_implies, implies_true, and_true, Region.binds] at hdep
      have f1 := hfr 1 (by decide)
      have f2 := hfr 2 (by decide)
      have f3 := hfr 3 (by decide)
      simp at f1 f2 f3 hdep
      obtain ⟨h0, h1, h2, h3, h4, h5, h6, h7, h8, hT⟩ := hJ
    · unfold OpSteps
      simp [go_sem, evS, f3]
      exact ⟨fun _ => by simp [sput], fun h => by simpa [sput] using h1 (by simpa [did] using h), fun h => by simpa [sput] using h2 (by simpa [did] using h), fun h => by simpa [sput] using h3 (by simpa [did] using h), fun h => by simpa [sput] using h4 (by simpa [did] using h), fun h => by simpa [sput] using h5 (by simpa [did] using h), fun h => by simpa [sput] using h6 (by simpa [did] using h), fun h => by simpa [sput] using h7 (by simpa [did] using h), fun h => by simpa [sput] using h8 (by simpa [did] using h), hT⟩
    · have g0 := h0 (by simp [hdep])
      unfold OpSteps
      obtain ⟨p0, p1, p2, p3, p4⟩ := cells5 (HZ1.out.below hT HZ1.out.lt)
      simp [go_sem, evS, g0, p0, p1, p2, p3, p4]
      exact ⟨fun h => by simpa [sput] using h0 (by simpa [did] using h), fun _ => by simp [sput], fun h => by simpa [sput] using h2 (by simpa [did] using h), fun h => by simpa [sput] using h3 (by simpa [did] using h), fun h => by simpa [sput] using h4 (by simpa [did] using h), fun h => by simpa [sput] using h5 (by simpa [did] using h), fun h => by simpa [sput] using h6 (by simpa [did] using h), fun h => by simpa [sput] using h7 (by simpa [did] using h), fun h => by simpa [sput] using h8 (by simpa [did] using h), hT⟩
    · unfold OpSteps
      obtain ⟨p0, p1, p2, p3, p4⟩ := cells5 (HZ1.out.below hT HZ1.out.lt)
      simp [go_sem, evS, f3, p0, p1, p2, p3, p4]
      exact ⟨fun h => by simpa [sput] using h0 (by simpa [did] using h), fun h => by simpa [sput] using h1 (by simpa [did] using h), fun _ => by simp [sput], fun h => by simpa [sput] using h3 (by simpa [did] using h), fun h => by simpa [sput] using h4 (by simpa [did] using h), fun h => by simpa [sput] using h5 (by simpa [did] using h), fun h => by simpa [sput] using h6 (by simpa [did] using h), fun h => by simpa [sput] using h7 (by simpa [did] using h), fun h => by simpa [sput] using h8 (by simpa [did] using h), hT⟩
    · unfold OpSteps
      simp [go_sem, evS, f1]
      exact ⟨fun h => by simpa [sput] using h0 (by simpa [did] using h), fun h => by simpa [sput] using h1 (by simpa [did] using h), fun h => by simpa [sput] using h2 (by simpa [did] using h), fun _ => by simp [sput], fun h => by simpa [sput] using h4 (by simpa [did] using h), fun h => by simpa [sput] using h5 (by simpa [did] using h), fun h => by simpa [sput] using h6 (by simpa [did] using h), fun h => by simpa [sput] using h7 (by simpa [did] using h), fun h => by simpa [sput] using h8 (by simpa [did] using h), hT⟩
    · unfold OpSteps
      simp [go_sem, evS, f2]
      exact ⟨fun h => by simpa [sput] using h0 (by simpa [did] using h), fun h => by simpa [sput] using h1 (by simpa [did] using h), fun h => by simpa [sput] using h2 (by simpa [did] using h), fun h => by simpa [sput] using h3 (by simpa [did] using h), fun _ => by simp [sput], fun h => by simpa [sput] using h5 (by simpa [did] using h), fun h => by simpa [sput] using h6 (by simpa [did] using h), fun h => by simpa [sput] using h7 (by simpa [did] using h), fun h => by simpa [sput] using h8 (by simpa [did] using h), hT⟩
    · have g2 := h2 (by simp [hdep])
      have g3 := h3 (by simp [hdep])
      have g4 := h4 (by simp [hdep])
      unfold OpSteps
      simp [go_sem, evS, g2, g3, g4]
      refine (HP.out W).mono ?_
      rintro e W' ⟨rfl, hb⟩
      refine ⟨_, rfl, ?_⟩
      exact ⟨fun h => by simpa [sput] using h0 (by simpa [did] using h), fun h => by simpa [sput] using h1 (by simpa [did] using h), fun h => by simpa [sput] using h2 (by simpa [did] using h), fun h => by simpa [sput] using h3 (by simpa [did] using h), fun h => by simpa [sput] using h4 (by simpa [did] using h), fun _ => by simp [sput], fun h => by simpa [sput] using h6 (by simpa [did] using h), fun h => by simpa [sput] using h7 (by simpa [did] using h), fun h => by simpa [sput] using h8 (by simpa [did] using h), below_nx hT hb⟩
    · have g1 := h1 (by simp [hdep])
      have g5 := h5 (by simp [hdep])
      unfold OpSteps
      simp [go_sem, evS, g1, g5, b2]
      exact ⟨fun h => by simpa [sput] using h0 (by simpa [did] using h), fun h => by simpa [sput] using h1 (by simpa [did] using h), fun h => by simpa [sput] using h2 (by simpa [did] using h), fun h => by simpa [sput] using h3 (by simpa [did] using h), fun h => by simpa [sput] using h4 (by simpa [did] using h), fun h => by simpa [sput] using h5 (by simpa [did] using h), fun _ => by simp [sput], fun h => by simpa [sput] using h7 (by simpa [did] using h), fun h => by simpa [sput] using h8 (by simpa [did] using h), hT⟩
    · have g6 := h6 (by simp [hdep])
      unfold OpSteps
      have pc := cell_below HCe.out hT
      simp [go_sem, evS, g6, pc]
      exact ⟨fun h => by simpa [sput] using h0 (by simpa [did] using h), fun h => by simpa [sput] using h1 (by simpa [did] using h), fun h => by simpa [sput] using h2 (by simpa [did] using h), fun h => by simpa [sput] using h3 (by simpa [did] using h), fun h => by simpa [sput] using h4 (by simpa [did] using h), fun h => by simpa [sput] using h5 (by simpa [did] using h), fun h => by simpa [sput] using h6 (by simpa [did] using h), fun _ => by simp [sput], fun h => by simpa [sput] using h8 (by simpa [did] using h), hT⟩
    · have g7 := h7 (by simp [hdep])
      unfold OpSteps
      simp [go_sem, evS, g7]
      exact ⟨fun h => by simpa [sput] using h0 (by simpa [did] using h), fun h => by simpa [sput] using h1 (by simpa [did] using h), fun h => by simpa [sput] using h2 (by simpa [did] using h), fun h => by simpa [sput] using h3 (by simpa [did] using h), fun h => by simpa [sput] using h4 (by simpa [did] using h), fun h => by simpa [sput] using h5 (by simpa [did] using h), fun h => by simpa [sput] using h6 (by simpa [did] using h), fun h => by simpa [sput] using h7 (by simpa [did] using h), fun _ => by simp [sput], hT⟩
  intro d s W hJ hd
  obtain ⟨h0, h1, h2, h3, h4, h5, h6, h7, h8, hT⟩ := hJ
  have hs := h8 (hd 8 (by decide))
  have HBe := Lib.hid (below_nx HB1.out hT)
  clear h0 h1 h2 h3 h4 h5 h6 h7 h8 hT hd
  simp [setAll, hs]
  clear hs
  go_wp2_with fail
  go_ret
  exact ⟨rfl, HBe.out⟩

/-- A turned matrix' numbers. -/
theorem dense_turn {l M : List Nat} {o R C L : Nat} (h : Dense (colsL l o R L C) C R M) {a b : Nat} (ha : a < R) (hb : b < C) : M.getD (b + a * C) 0 = l.getD (o + a + b * L) 0 := by
  have hp : b * R + a < C * R := tab_lt hb ha
  have h2 := h.2 (b * R + a) hp
  rw [colsL_getD l o R L ha hb] at h2
  have h3 : spot C R (b * R + a) = b + a * C := by
    unfold spot
    have e1 : (b * R + a) / R = b := by rw [Nat.add_comm, Nat.add_mul_div_right _ _ (by omega), Nat.div_eq_of_lt ha]; simp
    have e2 : (b * R + a) % R = a := by rw [Nat.add_comm, Nat.add_mul_mod_self_right, Nat.mod_eq_of_lt ha]
    rw [e1, e2]
  rw [← h3]
  exact h2
theorem eye_turn {n N D : Nat} {M l' M2 : List Nat} (hN : n * n = N) (hD : max 1 n = D) (hM : M.length = N) (hi : Imr M 0 n n D EyeR l') (h : Dense (colsL l' 0 n D n) n n M2) : M2 = l' := by
  have hl : l'.length = N := hi.1.trans hM
  refine ext_getD (by rw [h.1, hl, hN]) fun x hx => ?_
  have hx2 : x < n * n := by rw [h.1] at hx; exact hx
  have hn0 : 0 < n := by
    rcases Nat.eq_zero_or_pos n with e | e
    · subst e; simp at hx2
    · exact e
  have hD2 : D = n := by omega
  subst hD2
  have hb : x % D < D := Nat.mod_lt _ hn0
  have ha : x / D < D := Nat.div_lt_of_lt_mul hx2
  have e : x = x % D + x / D * D := by rw [Nat.mul_comm]; exact (Nat.mod_add_div x D).symm
  have h1 := dense_turn h ha hb
  rw [← e] at h1
  rw [h1]
  have h2 := hi.2.1 (x / D) ha (x % D) hb
  have h3 := hi.2.1 (x % D) hb (x / D) ha
  have e2 : 0 + x % D + x / D * D = x := by omega
  rw [e2] at h3
  unfold EyeR at h2 h3
  rw [h2, h3]
  by_cases q : x / D = x % D
  · rw [if_pos q, if_pos q.symm]
  · rw [if_neg q, if_neg (fun e => q e.symm)]
theorem eye_wds {n D N : Nat} {M l' : List Nat} (hN : n * n = N) (hD : max 1 n = D) (hM : Dense [] n n M) (hi : Imr M 0 n n D EyeR l') : Wds l' := by
  refine wds_imr (fun b hb => ?_) hi (fun a _ b _ r h => by unfold EyeR at h; rw [h]; split <;> omega)
  obtain ⟨k, hk, rfl⟩ := List.mem_iff_getElem.1 hb
  rw [← getD_of_lt hk]
  -- each place is one of the matrix'
  rw [hM.1] at hk
  have hn0 : 0 < n := by
    rcases Nat.eq_zero_or_pos n with e | e
    · subst e; simp at hk
    · exact e
  have hq : k % n * n + k / n < n * n := tab_lt (Nat.mod_lt _ hn0) (Nat.div_lt_of_lt_mul hk)
  have h2 := hM.2 _ hq
  have h3 : spot n n (k % n * n + k / n) = k := by
    unfold spot
    have hk2 : k / n < n := Nat.div_lt_of_lt_mul hk
    have e1 : (k % n * n + k / n) / n = k % n := by rw [Nat.add_comm, Nat.add_mul_div_right _ _ hn0, Nat.div_eq_of_lt hk2]; simp
    have e2 : (k % n * n + k / n) % n = k / n := by rw [Nat.add_comm, Nat.add_mul_mod_self_right, Nat.mod_eq_of_lt hk2]
    rw [e1, e2, Nat.mul_comm]
    exact Nat.mod_add_div k n
  rw [h3] at h2
  rw [h2]
  simp

set_option maxHeartbeats 2000000 in
theorem gerEyes_out (n : Int) (w : World) (h : n < 0 ∨ 64 < n) : Calls Try.prog 6 #[.int .i64 n] w fun e w' => e = .returned (.bool true) ∧ Below w.heap.size w w' := by
  have HE := Lib.hid (fun W => greye_out n W h)
  obtain ⟨b1, hb1⟩ : ∃ b, decide (n < 0) = b := ⟨_, rfl⟩
  obtain ⟨b2, hb2⟩ : ∃ b, decide (64 < n) = b := ⟨_, rfl⟩
  have hbb : b1 = true ∨ (b1 = false ∧ b2 = true) := by
    rw [← hb1, ← hb2]
    simp only [decide_eq_true_eq, decide_eq_false_iff_not]
    omega
  clear h
  unfold mat at *
  rcases hbb with rfl | ⟨rfl, rfl⟩
  · go_enter Try.func6, Try.ntmps6
    go_wp2_with fail
    refine (awake8_any _).mono ?_
    rintro e w1 ⟨rfl, hb⟩
    have HB1 := Lib.hid hb
    clear hb
    go_wp2_with fail
    refine (HE.out _).mono ?_
    rintro e w2 ⟨rfl, hb⟩
    have HB2 := Lib.hid (below_al (below_nx HB1.out hb) (o := (.cells #[.slice none 0 0, .int .i64 0, .int .i64 0, .int .i64 0, .int .i64 0] 26)))
    have HM2 := Lib.hid (Blk.new w2 26 #[.slice none 0 0, .int .i64 0, .int .i64 0, .int .i64 0, .int .i64 0])
    clear hb
    obtain ⟨m0, m1, m2, m3, m4⟩ := cells5 HM2.out
    go_wp2_with fail
    refine (awake8_any _).mono ?_
    rintro e w3 ⟨rfl, hb⟩
    have HB3 := Lib.hid (below_nx HB2.out hb)
    clear hb m0 m1 m2 m3 m4
    go_wp2_with fail
    go_ret
    exact ⟨rfl, HB3.out⟩
  · go_enter Try.func6, Try.ntmps6
    go_wp2_with fail
    refine (awake8_any _).mono ?_
    rintro e w1 ⟨rfl, hb⟩
    have HB1 := Lib.hid hb
    clear hb
    go_wp2_with fail
    refine (HE.out _).mono ?_
    rintro e w2 ⟨rfl, hb⟩
    have HB2 := Lib.hid (below_al (below_nx HB1.out hb) (o := (.cells #[.slice none 0 0, .int .i64 0, .int .i64 0, .int .i64 0, .int .i64 0] 26)))
    have HM2 := Lib.hid (Blk.new w2 26 #[.slice none 0 0, .int .i64 0, .int .i64 0, .int .i64 0, .int .i64 0])
    clear hb
    obtain ⟨m0, m1, m2, m3, m4⟩ := cells5 HM2.out
    go_wp2_with fail
    refine (awake8_any _).mono ?_
    rintro e w3 ⟨rfl, hb⟩
    have HB3 := Lib.hid (below_nx HB2.out hb)
    clear hb m0 m1 m2 m3 m4
    go_wp2_with fail
    go_ret
    exact ⟨rfl, HB3.out⟩

set_option maxRecDepth 100000 in
set_option maxHeartbeats 4000000 in
theorem gerEyes_in (n : Nat) (w : World) (hn : n ≤ 64) : Calls Try.prog 6 #[.int .i64 (n : Int)] w fun e w' => e = .returned (.bool true) ∧ Below w.heap.size w w' := by
  obtain ⟨N, hN⟩ : ∃ N, n * n = N := ⟨_, rfl⟩
  obtain ⟨D, hD⟩ : ∃ D, max 1 n = D := ⟨_, rfl⟩
  have hNb : N ≤ 4096 := by rw [← hN]; calc n * n ≤ 64 * 64 := Nat.mul_le_mul hn hn
    _ = 4096 := rfl
  have hgd : n = 0 ∨ n = 0 ∨ 0 + (n - 1) * D + (n - 1) < N := by
    rcases Nat.eq_zero_or_pos n with h | h
    · exact .inl h
    · right; right
      obtain ⟨m, rfl⟩ : ∃ m, n = m + 1 := ⟨n - 1, by omega⟩
      have : D = m + 1 := by omega
      subst this
      rw [← hN, Nat.add_sub_cancel]
      have : (m + 1) * (m + 1) = m * (m + 1) + (m + 1) := by rw [Nat.add_mul, Nat.one_mul]
      omega
  have HE := Lib.hid (fun W => greye_ok n N D W hn hN hD)
  have HG := Lib.hid (fun (g : Nat) W => rgood_any (some ⟨g, 0, none⟩) N N 0 n n D W (by omega) (by unfold I64; omega) (by unfold I64; omega) (by unfold I64; omega) (by unfold I64; omega))
  have hmt : matB N 0 (n : Int) (n : Int) (D : Int) = true := mat_right (o := 0) (by omega) (by omega) hgd
  rw [hmt] at HG
  have HAt := Lib.hid (fun (g : Nat) (M l' : List Nat) (hM : M.length = N) (hi : Imr M 0 n n D EyeR l') W (i j : Nat) (hO : Own W g l') (h1 : i < n) (h2 : j < n) => show Calls Try.prog 34 #[.agg #[.slice (some ⟨g, 0, none⟩) N N, .int .i64 0, .int .i64 (n : Int), .int .i64 (n : Int), .int .i64 (D : Int)], .int .i64 (i : Int), .int .i64 (j : Int)] W fun e w' => e = .returned (.float .f64 (if i = j then 4607182418800017408 else 0)) ∧ Below W.heap.size W w' from by
    have := vat_own g N N l' 0 n n D i j W hO (hi.1.trans hM) (by omega) (by unfold I64; omega) (by omega) (by omega) (by omega) (by omega) hgd h1 h2
    have e : l'.getD (0 + i + j * D) 0 = if i = j then 4607182418800017408 else 0 := hi.2.1 i h1 j h2
    rw [e] at this
    exact this)
  have HSa := Lib.hid (fun (v : Nat) (hv : v < 18446744073709551616) W => show Calls Try.prog 33 #[.float .f64 v, .float .f64 v] W fun e w' => e = .returned (.bool true) ∧ W = w' from by
    have := rsame_v v v W hv hv
    rw [sameB_refl] at this
    exact this)
  have HTu := Lib.hid (fun (g : Nat) (l' : List Nat) W (hO : Own W g l') (hl : l'.length = N) => show Calls Try.prog 29 #[.agg #[.slice (some ⟨g, 0, none⟩) N N, .int .i64 0, .int .i64 (n : Int), .int .i64 (n : Int), .int .i64 (D : Int)]] W fun e w' => ∃ g2 M2, e = .returned (.tuple #[.agg #[.slice (some ⟨g2, 0, none⟩) N N, .int .i64 0, .int .i64 (n : Int), .int .i64 (n : Int), .int .i64 (D : Int)], .int .i64 0]) ∧ Dense (colsL l' 0 n D n) n n M2 ∧ Own w' g2 M2 ∧ W.heap.size + 2 ≤ g2 ∧ Below W.heap.size W w' from
    grturn_ok (some ⟨g, 0, none⟩) N N l' 0 n n D N D W hO.row hl (Nat.le_refl _) (by omega) (by omega) hN hD (by omega) (by omega) hgd)
  have HAl := Lib.hid (fun (g g2 : Nat) (M l' : List Nat) (hM : M.length = N) (hi : Imr M 0 n n D EyeR l') (hW : Wds l') (A B : Option Addr) W (h1 : Row W A (f64s l')) (h2 : Row W B (f64s l')) => show Calls Try.prog 23 #[.slice A N N, .slice B N N] W fun e w' => e = .returned (.bool true) ∧ Below W.heap.size W w' from by
    have hl := hi.1.trans hM
    have := rall_any A B N N l' l' W hW hW h1 h2 (by omega) (Alike.refl l')
    rw [hl] at this; exact this)
  have HWd := Lib.hid (fun (M l' : List Nat) (hM : Dense [] n n M) (hi : Imr M 0 n n D EyeR l') => eye_wds hN hD hM hi)
  have HEt := Lib.hid (fun (M l' M2 : List Nat) (hM : M.length = N) (hi : Imr M 0 n n D EyeR l') (h : Dense (colsL l' 0 n D n) n n M2) => eye_turn hN hD hM hi h)
  have HNN := Lib.hid hN
  have d1 : decide ((n : Int) < 0) = false := by simp
  have d2 : decide ((64 : Int) < (n : Int)) = false := by simp; omega
  have e1 : ((n : Int) == (n : Int)) = true := by simp
  have e2 : ((n : Int) != (n : Int)) = false := by simp
  have hn2 : n ≤ 1048575 := by omega
  clear hN hD hNb hgd hmt hn
  unfold mat at *
  go_enter Try.func6, Try.ntmps6
  go_wp2_with fail
  refine (awake8_any _).mono ?_
  rintro e w1 ⟨rfl, hb⟩
  have HB1 := Lib.hid hb
  clear hb
  go_wp2_with fail
  refine (HE.out _).mono ?_
  rintro e w2 ⟨g, M, l', rfl, hM, hO, hi, hg, hb⟩
  have HB2 := Lib.hid (below_al (below_nx HB1.out hb) (o := (.cells #[.slice (some ⟨g, 0, none⟩) N N, .int .i64 0, .int .i64 (n : Int), .int .i64 (n : Int), .int .i64 (D : Int)] 26)))
  have HM2 := Lib.hid (Blk.new w2 26 #[.slice (some ⟨g, 0, none⟩) N N, .int .i64 0, .int .i64 (n : Int), .int .i64 (n : Int), .int .i64 (D : Int)])
  have HO2 := Lib.hid (hO.nxt (below_one (o := (.cells #[.slice (some ⟨g, 0, none⟩) N N, .int .i64 0, .int .i64 (n : Int), .int .i64 (n : Int), .int .i64 (D : Int)] 26))))
  have HD := Lib.hid hM
  have HMl := Lib.hid (hM.1.trans HNN.out)
  have HI := Lib.hid hi
  clear hb hM hO hi hg
  obtain ⟨m0, m1, m2, m3, m4⟩ := cells5 HM2.out
  go_wp2_with fail
  refine (HG.out g _).mono ?_
  rintro e w3 ⟨rfl, hb⟩
  have HB3 := Lib.hid (below_nx HB2.out hb)
  have HM3 := Lib.hid (HM2.out.nxt hb)
  have HO3 := Lib.hid (HO2.out.nxt hb)
  clear hb m0 m1 m2 m3 m4
  obtain ⟨m0, m1, m2, m3, m4⟩ := cells5 HM3.out
  go_wp2_with fail
  clear m0 m1 m2 m3 m4
  generalize w2.heap.size = tm at *
  go_loopw [4] (fun x wr => ∃ i1 : Nat, i1 ≤ n ∧ x = .int .i64 (i1 : Int) ∧ Hid (Own wr g l' ∧ Blk wr tm 26 #[.slice (some ⟨g, 0, none⟩) N N, .int .i64 0, .int .i64 (n : Int), .int .i64 (n : Int), .int .i64 (D : Int)] ∧ Below w.heap.size w wr)) (fun x _ => n - (intOf x).toNat)
  case atStart => exact ⟨0, Nat.zero_le _, rfl, Lib.hid ⟨HO3.out, HM3.out, HB3.out⟩⟩
  case round =>
    obtain ⟨i1, hi1, rfl, HS⟩ := hrel
    by_cases hlt : i1 < n
    · have har2 : (i1 : Int) < (n : Int) := by omega
      have ha1 : i1 + 1 ≤ 1048576 := by omega
      go_wp2_with fail
      go_loopw [5] (fun x wr => ∃ j1 : Nat, j1 ≤ n ∧ x = .int .i64 (j1 : Int) ∧ Hid (Own wr g l' ∧ Blk wr tm 26 #[.slice (some ⟨g, 0, none⟩) N N, .int .i64 0, .int .i64 (n : Int), .int .i64 (n : Int), .int .i64 (D : Int)] ∧ Below w.heap.size w wr)) (fun x _ => n - (intOf x).toNat)
      case atStart => exact ⟨0, Nat.zero_le _, rfl, HS⟩
      case round =>
        obtain ⟨j1, hj1, rfl, HS⟩ := hrel
        by_cases hlt2 : j1 < n
        · have hbr2 : (j1 : Int) < (n : Int) := by omega
          have hb1 : j1 + 1 ≤ 1048576 := by omega
          have HAv := Lib.hid (fun W (h : Own W g l') => HAt.out g M l' HMl.out HI.out W i1 j1 h hlt hlt2)
          obtain ⟨m0, m1, m2, m3, m4⟩ := cells5 HS.out.2.1
          by_cases hij : i1 = j1
          · subst hij
            have q1 : ((i1 : Int) == (i1 : Int)) = true := by simp
            rw [if_pos rfl] at HAv
            go_wp2_with fail
            refine (HAv.out _ HS.out.1).mono ?_
            rintro e wa ⟨rfl, hb⟩
            have HS2 := Lib.hid (show Own wa g l' ∧ Blk wa tm 26 #[.slice (some ⟨g, 0, none⟩) N N, .int .i64 0, .int .i64 (n : Int), .int .i64 (n : Int), .int .i64 (D : Int)] ∧ Below w.heap.size w wa from ⟨HS.out.1.nxt hb, HS.out.2.1.nxt hb, below_nx HS.out.2.2 hb⟩)
            clear hb m0 m1 m2 m3 m4
            go_wp2_with fail
            refine (HSa.out 4607182418800017408 (by decide) _).mono ?_
            rintro e wb ⟨rfl, rfl⟩
            go_wp2_with fail
            go_roundw
            case rel => exact ⟨i1 + 1, by omega, by go_num, HS2⟩
            case measure => simp [intOf]; omega
          · have q1 : ((i1 : Int) == (j1 : Int)) = false := by simp; omega
            have q2 : ¬ (i1 : Int) = (j1 : Int) := by omega
            rw [if_neg hij] at HAv
            clear hij
            go_wp2_with fail
            refine (HAv.out _ HS.out.1).mono ?_
            rintro e wa ⟨rfl, hb⟩
            have HS2 := Lib.hid (show Own wa g l' ∧ Blk wa tm 26 #[.slice (some ⟨g, 0, none⟩) N N, .int .i64 0, .int .i64 (n : Int), .int .i64 (n : Int), .int .i64 (D : Int)] ∧ Below w.heap.size w wa from ⟨HS.out.1.nxt hb, HS.out.2.1.nxt hb, below_nx HS.out.2.2 hb⟩)
            clear hb m0 m1 m2 m3 m4
            go_wp2_with fail
            refine (HSa.out 0 (by decide) _).mono ?_
            rintro e wb ⟨rfl, rfl⟩
            go_wp2_with fail
            go_roundw
            case rel => exact ⟨j1 + 1, by omega, by go_num, HS2⟩
            case measure => simp [intOf]; omega
        · obtain rfl : n = j1 := by omega
          have hbb : ¬ (n : Int) < (n : Int) := by omega
          go_wp2_with fail
          go_roundw
          case rel => exact ⟨i1 + 1, by omega, by go_num, HS⟩
          case measure => simp [intOf]; omega
    · obtain rfl : n = i1 := by omega
      have hbb : ¬ (n : Int) < (n : Int) := by omega
      obtain ⟨m0, m1, m2, m3, m4⟩ := cells5 HS.out.2.1
      go_wp2_with fail
      refine (HTu.out g l' _ HS.out.1 (HI.out.1.trans HMl.out)).mono ?_
      rintro e w4 ⟨g2, M2, rfl, hd, hO4, hg2, hb⟩
      have hM2 := HEt.out M l' M2 HMl.out HI.out hd
      subst hM2
      have HO4 := Lib.hid ((HS.out.1.nxt hb).nxt (below_one (o := (.cells #[.slice (some ⟨g2, 0, none⟩) N N, .int .i64 0, .int .i64 (n : Int), .int .i64 (n : Int), .int .i64 (D : Int)] 26))))
      have HP4 := Lib.hid (hO4.nxt (below_one (o := (.cells #[.slice (some ⟨g2, 0, none⟩) N N, .int .i64 0, .int .i64 (n : Int), .int .i64 (n : Int), .int .i64 (D : Int)] 26))))
      have HM4 := Lib.hid ((HS.out.2.1.nxt hb).alloc (.cells #[.slice (some ⟨g2, 0, none⟩) N N, .int .i64 0, .int .i64 (n : Int), .int .i64 (n : Int), .int .i64 (D : Int)] 26))
      have HT4 := Lib.hid (Blk.new w4 26 #[.slice (some ⟨g2, 0, none⟩) N N, .int .i64 0, .int .i64 (n : Int), .int .i64 (n : Int), .int .i64 (D : Int)])
      have HB4 := Lib.hid (below_al (below_nx HS.out.2.2 hb) (o := (.cells #[.slice (some ⟨g2, 0, none⟩) N N, .int .i64 0, .int .i64 (n : Int), .int .i64 (n : Int), .int .i64 (D : Int)] 26)))
      clear hb hd hO4 hg2 m0 m1 m2 m3 m4
      obtain ⟨m0, m1, m2, m3, m4⟩ := cells5 HM4.out
      obtain ⟨t0, t1, t2, t3, t4⟩ := cells5 HT4.out
      go_wp2_with fail
      refine (HAl.out g g2 M M2 HMl.out HI.out (HWd.out M M2 HD.out HI.out) _ _ _ HP4.out.row HO4.out.row).mono ?_
      rintro e w5 ⟨rfl, hb⟩
      have HB5 := Lib.hid (below_nx HB4.out hb)
      clear hb m0 m1 m2 m3 m4 t0 t1 t2 t3 t4
      go_wp2_with fail
      refine (awake8_any _).mono ?_
      rintro e w6 ⟨rfl, hb⟩
      have HB6 := Lib.hid (below_nx HB5.out hb)
      clear hb
      go_wp2_with fail
      go_ret
      exact ⟨rfl, HB6.out⟩

theorem gerEyes_walk (n : Int) (w : World) (hn : I64 n) : Calls Try.prog 6 #[.int .i64 n] w fun e w' => e = .returned (.bool true) ∧ Below w.heap.size w w' := by
  by_cases h : n < 0 ∨ 64 < n
  · exact gerEyes_out n w h
  · obtain ⟨m, rfl⟩ : ∃ m : Nat, n = m := ⟨n.toNat, by omega⟩
    exact gerEyes_in m w (by omega)
end Go.Proofs.Ytmjaakngiilmdaa
