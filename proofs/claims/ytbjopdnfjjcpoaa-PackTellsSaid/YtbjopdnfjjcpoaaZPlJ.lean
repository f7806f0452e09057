/-
view.At of any matrix; fill; Pack with an error. Conditions: as each says.
-/
import Derived.Test.YtbjopdnfjjcpoaaZPlI
set_option linter.unusedVariables false
set_option linter.unusedSimpArgs false
set_option linter.unnecessarySimpa false
namespace Go.Proofs.Ytbjopdnfjjcpoaa
open Go.RowKit
attribute [local go_sem ↓] Go.wp_at_zero Go.wp_at_succ

/-- The number of row i and column j; 0, if there is none. -/
def atN (l : List Nat) (o R C L i j : Nat) : Nat := if i < R ∧ j < C then l.getD (o + i + j * L) 0 else 0
set_option maxRecDepth 100000 in
set_option maxHeartbeats 2000000 in
theorem vat_in (A : Option Addr) (c n : Nat) (l : List Nat) (o R C L i j : Nat) (w : World) (hA : Row w A (f64s l)) (hl : l.length = n) (hn : n < 1048576) (hLI : I64 L) (hRb : R < 1048576) (hCb : C < 1048576) (hL1 : 1 ≤ L) (hRL : R ≤ L) (hmr : R = 0 ∨ C = 0 ∨ o + (C - 1) * L + (R - 1) < n) (hi : i < R) (hj : j < C) :
    Calls Try.prog 25 #[mat A n c o R C L, .int .i64 i, .int .i64 j] w fun e w' => e = .returned (.float .f64 (l.getD (o + i + j * L) 0)) ∧ Below w.heap.size w w' := by
  have hP := gr_lt hmr hi hj
  have HH := Lib.hid (fun W => holds_any A n c o R C L i j W (by omega) (by unfold I64; omega) (by unfold I64; omega) (by unfold I64; omega) hLI)
  have ht : thereB n (o : Int) (R : Int) (C : Int) (L : Int) (i : Int) (j : Int) = true := by
    unfold thereB
    rw [mat_right hL1 hRL hmr]
    simp
    omega
  rw [ht] at HH
  have hjl : I64 ((j : Int) * (L : Int)) := by
    have e : (j : Int) * (L : Int) = ((j * L : Nat) : Int) := by simp
    rw [e]; unfold I64; omega
  have HP := Lib.hid (fun W => place_any A n c o R C L i j ((o + i + j * L : Nat) : Int) W (by simp) (by unfold I64; omega) hjl (by unfold I64; omega))
  have hPl : o + i + j * L < l.length := by omega
  obtain ⟨b, x, rfl, hblt, hcell0⟩ := hA.at_ (f64s_get l _ hPl)
  rw [← getD_of_lt hPl] at hcell0
  have HCe0 := Lib.hid hcell0
  obtain ⟨v, hv⟩ : ∃ v, l.getD (o + i + j * L) 0 = v := ⟨_, rfl⟩
  rw [hv] at HCe0
  rw [hv]
  obtain ⟨P, hPd⟩ : ∃ P, o + i + j * L = P := ⟨_, rfl⟩
  rw [hPd] at HCe0 HP hP
  have b2 := hP
  clear hv hPd hP hPl hjl hA hl hn hLI hRb hCb hL1 hRL hmr hi hj ht hcell0 hblt
  unfold mat at *
  go_enter Try.func25, Try.ntmps25
  have HZ0 := Lib.hid (Blk.new w 24 #[.slice (some ⟨b, x, none⟩) n c, .int .i64 o, .int .i64 R, .int .i64 C, .int .i64 L])
  have HB0 := Lib.hid ((Below.refl w.heap.size w).alloc (Nat.le_refl _) (.cells #[.slice (some ⟨b, x, none⟩) n c, .int .i64 o, .int .i64 R, .int .i64 C, .int .i64 L] 24))
  obtain ⟨c0, c1, c2, c3, c4⟩ := cells5 HZ0.out
  go_wp2_with fail
  refine (HH.out _).mono ?_
  rintro e w1 ⟨rfl, hb⟩
  have HZ1 := Lib.hid (HZ0.out.nxt hb)
  have HB1 := Lib.hid (below_nx HB0.out hb)
  have HCe := Lib.hid (cell_below HCe0.out HB1.out)
  clear hb c0 c1 c2 c3 c4
  obtain ⟨c0, c1, c2, c3, c4⟩ := cells5 HZ1.out
  go_wp2_with fail
  clear c0 c1 c2 c3 c4
  refine wp_region_inv [12, 13, 14, 15, 16, 17, 18, 19, 6] (fun d s W => (d 0 = true → s 12 = .pointer (some ⟨w.heap.size, 0, none⟩)) ∧ (d 1 = true → s 13 = .slice (some ⟨b, x, none⟩) n c) ∧ (d 2 = true → s 14 = .agg #[.slice (some ⟨b, x, none⟩) n c, .int .i64 (o : Int), .int .i64 (R : Int), .int .i64 (C : Int), .int .i64 (L : Int)]) ∧ (d 3 = true → s 15 = .int .i64 (i : Int)) ∧ (d 4 = true → s 16 = .int .i64 (j : Int)) ∧ (d 5 = true → s 17 = .int .i64 (P : Int)) ∧ (d 6 = true → s 18 = .pointer (some ⟨b, x + P, none⟩)) ∧ (d 7 = true → s 19 = .float .f64 v) ∧ (d 8 = true → s 6 = .float .f64 v) ∧ Below w1.heap.size w1 W)
    rfl (by kernel_rfl) ?_ ?_ ?_
  · exact ⟨by simp, by simp, by simp, by simp, by simp, by simp, by simp, by simp, by simp, (Below.refl _ _).drew⟩
  · refine ⟨?_, ?_, ?_, ?_, ?_, ?_, ?_, ?_, ?_, trivial⟩
    all_goals
      intro d s W hJ hfr hd hdep
      simp only [List.mem_cons, forall_eq_or_imp, List.not_mem_nil, false_implies, implies_true, and_true, Region.binds] at hdep
      have f1 := hfr 1 (by decide)
      have f2 := hfr 2 (by decide)
      have f3 := hfr 3 (by decide)
      simp at f1 f2 f3 hdep
      obtain ⟨h0, h1, h2, h3, h4, h5, h6, h7, h8, hT⟩ := hJ
    · unfold OpSteps
      simp [go_sem, evS, f3]
      exact ⟨fun _ => by simp [sput], fun h => by simpa [sput] using h1 (by simpa [did] using h), fun h => by simpa [sput] using h2 (by simpa [did] using h), fun h => by simpa [sput] using h3 (by simpa [did] using h), fun h => by simpa [sput] using h4 (by simpa [did] using h), fun h => by simpa [sput] using h5 (by simpa [did] using h), fun h => by simpa [sput] using h6 (by simpa [did] using h), fun h => by simpa [sput] using h7 (by simpa [did] using h), fun h => by simpa [sput] using h8 (by simpa [did] using h), hT⟩
    · have g0 := h0 (by simp [hdep])
      unfold OpSteps
      obtain ⟨p0, p1, p2, p3, p4⟩ := cells5 (HZ1.out.below hT HZ1.out.lt)
      simp [go_sem, evS, g0, p0, p1, p2, p3, p4]
      exact ⟨fun h => by simpa [sput] using h0 (by simpa [did] using h), fun _ => by simp [sput], fun h => by simpa [sput] using h2 (by simpa [did] using h), fun h => by simpa [sput] using h3 (by simpa [did] using h), fun h => by simpa [sput] using h4 (by simpa [did] using h), fun h => by simpa [sput] using h5 (by simpa [did] using h), fun h => by simpa [sput] using h6 (by simpa [did] using h), fun h => by simpa [sput] using h7 (by simpa [did] using h), fun h => by simpa [sput] using h8 (by simpa [did] using h), hT⟩
    · unfold OpSteps
      obtain ⟨p0, p1, p2, p3, p4⟩ := cells5 (HZ1.out.below hT HZ1.out.lt)
      simp [go_sem, evS, f3, p0, p1, p2, p3, p4]
      exact ⟨fun h => by simpa [sput] using h0 (by simpa [did] using h), fun h => by simpa [sput] using h1 (by simpa [did] using h), fun _ => by simp [sput], fun h => by simpa [sput] using h3 (by simpa [did] using h), fun h => by simpa [sput] using h4 (by simpa [did] using h), fun h => by simpa [sput] using h5 (by simpa [did] using h), fun h => by simpa [sput] using h6 (by simpa [did] using h), fun h => by simpa [sput] using h7 (by simpa [did] using h), fun h => by simpa [sput] using h8 (by simpa [did] using h), hT⟩
    · unfold OpSteps
      simp [go_sem, evS, f1]
      exact ⟨fun h => by simpa [sput] using h0 (by simpa [did] using h), fun h => by simpa [sput] using h1 (by simpa [did] using h), fun h => by simpa [sput] using h2 (by simpa [did] using h), fun _ => by simp [sput], fun h => by simpa [sput] using h4 (by simpa [did] using h), fun h => by simpa [sput] using h5 (by simpa [did] using h), fun h => by simpa [sput] using h6 (by simpa [did] using h), fun h => by simpa [sput] using h7 (by simpa [did] using h), fun h => by simpa [sput] using h8 (by simpa [did] using h), hT⟩
    · unfold OpSteps
      simp [go_sem, evS, f2]
      exact ⟨fun h => by simpa [sput] using h0 (by simpa [did] using h), fun h => by simpa [sput] using h1 (by simpa [did] using h), fun h => by simpa [sput] using h2 (by simpa [did] using h), fun h => by simpa [sput] using h3 (by simpa [did] using h), fun _ => by simp [sput], fun h => by simpa [sput] using h5 (by simpa [did] using h), fun h => by simpa [sput] using h6 (by simpa [did] using h), fun h => by simpa [sput] using h7 (by simpa [did] using h), fun h => by simpa [sput] using h8 (by simpa [did] using h), hT⟩
    · have g2 := h2 (by simp [hdep])
      have g3 := h3 (by simp [hdep])
      have g4 := h4 (by simp [hdep])
      unfold OpSteps
      simp [go_sem, evS, g2, g3, g4]
      refine (HP.out W).mono ?_
      rintro e W' ⟨rfl, hb⟩
      refine ⟨_, rfl, ?_⟩
      exact ⟨fun h => by simpa [sput] using h0 (by simpa [did] using h), fun h => by simpa [sput] using h1 (by simpa [did] using h), fun h => by simpa [sput] using h2 (by simpa [did] using h), fun h => by simpa [sput] using h3 (by simpa [did] using h), fun h => by simpa [sput] using h4 (by simpa [did] using h), fun _ => by simp [sput], fun h => by simpa [sput] using h6 (by simpa [did] using h), fun h => by simpa [sput] using h7 (by simpa [did] using h), fun h => by simpa [sput] using h8 (by simpa [did] using h), below_nx hT hb⟩
    · have g1 := h1 (by simp [hdep])
      have g5 := h5 (by simp [hdep])
      unfold OpSteps
      simp [go_sem, evS, g1, g5, b2]
      exact ⟨fun h => by simpa [sput] using h0 (by simpa [did] using h), fun h => by simpa [sput] using h1 (by simpa [did] using h), fun h => by simpa [sput] using h2 (by simpa [did] using h), fun h => by simpa [sput] using h3 (by simpa [did] using h), fun h => by simpa [sput] using h4 (by simpa [did] using h), fun h => by simpa [sput] using h5 (by simpa [did] using h), fun _ => by simp [sput], fun h => by simpa [sput] using h7 (by simpa [did] using h), fun h => by simpa [sput] using h8 (by simpa [did] using h), hT⟩
    · have g6 := h6 (by simp [hdep])
      unfold OpSteps
      have pc := cell_below HCe.out hT
      simp [go_sem, evS, g6, pc]
      exact ⟨fun h => by simpa [sput] using h0 (by simpa [did] using h), fun h => by simpa [sput] using h1 (by simpa [did] using h), fun h => by simpa [sput] using h2 (by simpa [did] using h), fun h => by simpa [sput] using h3 (by simpa [did] using h), fun h => by simpa [sput] using h4 (by simpa [did] using h), fun h => by simpa [sput] using h5 (by simpa [did] using h), fun h => by simpa [sput] using h6 (by simpa [did] using h), fun _ => by simp [sput], fun h => by simpa [sput] using h8 (by simpa [did] using h), hT⟩
    · have g7 := h7 (by simp [hdep])
      unfold OpSteps
      simp [go_sem, evS, g7]
      exact ⟨fun h => by simpa [sput] using h0 (by simpa [did] using h), fun h => by simpa [sput] using h1 (by simpa [did] using h), fun h => by simpa [sput] using h2 (by simpa [did] using h), fun h => by simpa [sput] using h3 (by simpa [did] using h), fun h => by simpa [sput] using h4 (by simpa [did] using h), fun h => by simpa [sput] using h5 (by simpa [did] using h), fun h => by simpa [sput] using h6 (by simpa [did] using h), fun h => by simpa [sput] using h7 (by simpa [did] using h), fun _ => by simp [sput], hT⟩
  intro d s W hJ hd
  obtain ⟨h0, h1, h2, h3, h4, h5, h6, h7, h8, hT⟩ := hJ
  have hs := h8 (hd 8 (by decide))
  have HBe := Lib.hid (below_nx HB1.out hT)
  clear h0 h1 h2 h3 h4 h5 h6 h7 h8 hT hd
  simp [setAll, hs]
  clear hs
  go_wp2_with fail
  go_ret
  exact ⟨rfl, HBe.out⟩
theorem vat_out (A : Option Addr) (c n : Nat) (o R C L i j : Int) (w : World) (hn : n < 9223372036854775808) (ho : I64 o) (hr : I64 R) (hk : I64 C) (hi : I64 L) (ht : thereB n o R C L i j = false) :
    Calls Try.prog 25 #[mat A n c o R C L, .int .i64 i, .int .i64 j] w fun e w' => e = .returned (.float .f64 0) ∧ Below w.heap.size w w' := by
  have HH := Lib.hid (fun W => holds_any A n c o R C L i j W hn ho hr hk hi)
  rw [ht] at HH
  clear ht hn ho hr hk hi
  unfold mat at *
  go_enter Try.func25, Try.ntmps25
  have HB0 := Lib.hid ((Below.refl w.heap.size w).alloc (Nat.le_refl _) (.cells #[.slice A n c, .int .i64 o, .int .i64 R, .int .i64 C, .int .i64 L] 24))
  obtain ⟨c0, c1, c2, c3, c4⟩ := cells5 (Blk.new w 24 #[.slice A n c, .int .i64 o, .int .i64 R, .int .i64 C, .int .i64 L])
  go_wp2_with fail
  refine (HH.out _).mono ?_
  rintro e w1 ⟨rfl, hb⟩
  have HB1 := Lib.hid (below_nx HB0.out hb)
  clear hb c0 c1 c2 c3 c4
  go_wp2_with fail
  go_ret
  exact ⟨rfl, HB1.out⟩
theorem vat_any (A : Option Addr) (c n : Nat) (l : List Nat) (o R C L i j : Nat) (w : World) (hA : Row w A (f64s l)) (hl : l.length = n) (hn : n < 1048576) (hLI : I64 L) (hRb : R < 1048576) (hCb : C < 1048576) (hob : o < 9223372036854775808) (hL1 : 1 ≤ L) (hRL : R ≤ L) (hmr : R = 0 ∨ C = 0 ∨ o + (C - 1) * L + (R - 1) < n) :
    Calls Try.prog 25 #[mat A n c o R C L, .int .i64 i, .int .i64 j] w fun e w' => e = .returned (.float .f64 (atN l o R C L i j)) ∧ Below w.heap.size w w' := by
  unfold atN
  by_cases h : i < R ∧ j < C
  · rw [if_pos h]
    exact vat_in A c n l o R C L i j w hA hl hn hLI hRb hCb hL1 hRL hmr h.1 h.2
  · rw [if_neg h]
    refine vat_out A c n o R C L i j w (by omega) (by unfold I64; omega) (by unfold I64; omega) (by unfold I64; omega) hLI ?_
    unfold thereB
    rw [mat_right hL1 hRL hmr]
    simp
    omega
/-- The least multiple of s that is at least n. -/
def fillN (n s : Nat) : Nat := (n + s - 1) / s * s
theorem fillN_le {n s : Nat} (hs : 1 ≤ s) : n ≤ fillN n s ∧ fillN n s < n + s := by
  unfold fillN
  have h1 := Nat.div_add_mod (n + s - 1) s
  have h2 := Nat.mod_lt (n + s - 1) (show 0 < s by omega)
  rw [Nat.mul_comm] at h1
  omega
theorem fillN_mod (n s : Nat) : fillN n s % s = 0 := Nat.mul_mod_left _ _
theorem fillN_least {n s r : Nat} (hs : 1 ≤ s) (h1 : n ≤ r) (h2 : r % s = 0) : fillN n s ≤ r := by
  obtain ⟨q, rfl⟩ : ∃ q, r = q * s := ⟨r / s, by rw [Nat.div_mul_cancel (Nat.dvd_of_mod_eq_zero h2)]⟩
  unfold fillN
  refine Nat.mul_le_mul_right s ?_
  have h3 : n + s - 1 < (q + 1) * s := by rw [Nat.add_mul]; omega
  have := (Nat.div_lt_iff_lt_mul (show 0 < s by omega)).2 h3
  omega
theorem fl_w {z : Int} {M : Nat} (h : z = (M : Int)) (hM : M < 1048576) : IntKind.i64.wrap z = (M : Int) ∧ wrap64 z = (M : Int) := by
  subst h
  exact ⟨wrapi (by omega) (by omega), wrap_id (by unfold I64; omega)⟩
theorem fill_walk (n s : Nat) (w : World) (M M1 q m F : Nat) (f2 : (M1 : Int).tdiv (s : Int) = (m : Int)) (f3 : ((s : Int) == 0) = false) (f4 : (s == 0) = false) (f5 : ¬ s = 0) (f6 : ¬ (s : Int) = 0) (f8 : IntKind.i64.wrap (m : Int) = (m : Int))
    (e1 : IntKind.i64.wrap ((n : Int) + (s : Int)) = (M : Int)) (g1 : wrap64 ((n : Int) + (s : Int)) = (M : Int)) (e2 : IntKind.i64.wrap ((M : Int) - 1) = (M1 : Int)) (g2 : wrap64 ((M : Int) - 1) = (M1 : Int)) (e3 : IntKind.i64.wrap ((m : Int) * (s : Int)) = (F : Int)) (g3 : wrap64 ((m : Int) * (s : Int)) = (F : Int)) :
    Calls Try.prog 24 #[.int .i64 (n : Int), .int .i64 (s : Int)] w fun e w' => e = .returned (.int .i64 (F : Int)) ∧ w = w' := by
  go_enter Try.func24, Try.ntmps24
  go_wp2_with fail
  go_ret
  exact ⟨rfl, rfl⟩
theorem fill_any (n s : Nat) (w : World) (hn : n ≤ 64) (hs : 1 ≤ s) (hs2 : s ≤ 64) :
    Calls Try.prog 24 #[.int .i64 (n : Int), .int .i64 (s : Int)] w fun e w' => e = .returned (.int .i64 (fillN n s : Int)) ∧ w = w' := by
  have hF := fillN_le (n := n) hs
  have hFb : fillN n s < 1048576 := by omega
  have h1 := fl_w (z := (n : Int) + (s : Int)) (M := n + s) (by simp) (by omega)
  have h2 := fl_w (z := ((n + s : Nat) : Int) - 1) (M := n + s - 1) (by omega) (by omega)
  have h3 := fl_w (z := (((n + s - 1) / s : Nat) : Int) * (s : Int)) (M := fillN n s) (by unfold fillN; simp) hFb
  clear hF
  obtain ⟨q, m, hq, hm, f1, f2, ⟨f3, f4, f5, f6⟩, f7, f8⟩ := wh_facts (n := n + s - 1) (k := s) hs (by omega)
  rw [← hm] at h3
  exact fill_walk n s w (n + s) (n + s - 1) q m (fillN n s) f2 f3 f4 f5 f6 f8 h1.1 h1.2 h2.1 h2.2 h3.1 h3.2
/-- Pack's error. -/
def PkE (E : Int) (w : World) (e : Ending) (w' : World) : Prop := e = .returned (.tuple #[.agg #[.int .i64 0, .int .i64 0, .slice none 0 0], .int .i64 E]) ∧ Below w.heap.size w w'
set_option maxRecDepth 100000 in
set_option maxHeartbeats 1000000 in
theorem pack_bad (Am : Option Addr) (nm cm : Nat) (mo mr mk ml st : Int) (w : World) (hn : nm < 1048576) (hmo : I64 mo) (hmr : I64 mr) (hmk : I64 mk) (hml : I64 ml) (h : matB nm mo mr mk ml = false ∨ st < 1 ∨ 64 < st) :
    Calls Try.prog 8 #[mat Am nm cm mo mr mk ml, .int .i64 st] w (PkE 1 w) := by
  have HG := Lib.hid (fun W => good_any Am nm cm mo mr mk ml W (by omega) hmo hmr hmk hml)
  clear hn hmo hmr hmk hml
  by_cases hg : matB nm mo mr mk ml = false
  · rw [hg] at HG
    clear h hg
    unfold mat at *
    go_enter Try.func8, Try.ntmps8
    have Hm0 := Lib.hid ((Blk.new w 24 #[.slice Am nm cm, .int .i64 mo, .int .i64 mr, .int .i64 mk, .int .i64 ml]).alloc (.cells #[.int .i64 0, .int .i64 0, .slice none 0 0] 28))
    have Hr0 := Lib.hid (Blk.new_ (w.alloc (.cells #[.slice Am nm cm, .int .i64 mo, .int .i64 mr, .int .i64 mk, .int .i64 ml] 24)) 28 #[.int .i64 0, .int .i64 0, .slice none 0 0] (w.heap.size + 1) (by simp))
    have HB0 := Lib.hid (((Below.refl w.heap.size w).alloc (Nat.le_refl _) (.cells #[.slice Am nm cm, .int .i64 mo, .int .i64 mr, .int .i64 mk, .int .i64 ml] 24)).alloc (by simp) (.cells #[.int .i64 0, .int .i64 0, .slice none 0 0] 28))
    obtain ⟨c0, c1, c2, c3, c4⟩ := cells5 Hm0.out
    go_wp2_with fail
    refine (HG.out _).mono ?_
    rintro e w1 ⟨rfl, hb⟩
    have Hm1 := Lib.hid (Hm0.out.nxt hb)
    have Hr1 := Lib.hid (Hr0.out.nxt hb)
    have HB1 := Lib.hid (below_nx HB0.out hb)
    clear hb c0 c1 c2 c3 c4
    obtain ⟨c0, c1, c2, c3, c4⟩ := cells5 Hm1.out
    obtain ⟨r0, r1, r2⟩ := cells3v Hr1.out
    obtain ⟨z0, z1, z2⟩ := frozen3v Hr1.out
    have HSt := Lib.hid (Hr1.out.store3v (.int .i64 0) (.int .i64 0) (.slice none 0 0))
    have HBe := Lib.hid (below3g HB1.out (show w.heap.size ≤ w.heap.size + 1 by omega) (.int .i64 0) (.int .i64 0) (.slice none 0 0))
    go_wp2_with fail
    obtain ⟨j0, j1, j2⟩ := cells3v HSt.out
    exact bodyPost_ret (v := .tuple #[.agg #[.int .i64 0, .int .i64 0, .slice none 0 0], .int .i64 1]) (by simp [results, Try.results8, go_sem, j0, j1, j2]) rfl ⟨rfl, HBe.out⟩
  · have hg2 : matB nm mo mr mk ml = true := by simpa using hg
    have h2 := h.resolve_left hg
    rw [hg2] at HG
    clear h hg hg2
    by_cases h1 : st < 1
    · clear h2
      unfold mat at *
      go_enter Try.func8, Try.ntmps8
      have Hm0 := Lib.hid ((Blk.new w 24 #[.slice Am nm cm, .int .i64 mo, .int .i64 mr, .int .i64 mk, .int .i64 ml]).alloc (.cells #[.int .i64 0, .int .i64 0, .slice none 0 0] 28))
      have Hr0 := Lib.hid (Blk.new_ (w.alloc (.cells #[.slice Am nm cm, .int .i64 mo, .int .i64 mr, .int .i64 mk, .int .i64 ml] 24)) 28 #[.int .i64 0, .int .i64 0, .slice none 0 0] (w.heap.size + 1) (by simp))
      have HB0 := Lib.hid (((Below.refl w.heap.size w).alloc (Nat.le_refl _) (.cells #[.slice Am nm cm, .int .i64 mo, .int .i64 mr, .int .i64 mk, .int .i64 ml] 24)).alloc (by simp) (.cells #[.int .i64 0, .int .i64 0, .slice none 0 0] 28))
      obtain ⟨c0, c1, c2, c3, c4⟩ := cells5 Hm0.out
      go_wp2_with fail
      refine (HG.out _).mono ?_
      rintro e w1 ⟨rfl, hb⟩
      have Hm1 := Lib.hid (Hm0.out.nxt hb)
      have Hr1 := Lib.hid (Hr0.out.nxt hb)
      have HB1 := Lib.hid (below_nx HB0.out hb)
      clear hb c0 c1 c2 c3 c4
      obtain ⟨c0, c1, c2, c3, c4⟩ := cells5 Hm1.out
      obtain ⟨r0, r1, r2⟩ := cells3v Hr1.out
      obtain ⟨z0, z1, z2⟩ := frozen3v Hr1.out
      have HSt := Lib.hid (Hr1.out.store3v (.int .i64 0) (.int .i64 0) (.slice none 0 0))
      have HBe := Lib.hid (below3g HB1.out (show w.heap.size ≤ w.heap.size + 1 by omega) (.int .i64 0) (.int .i64 0) (.slice none 0 0))
      go_wp2_with fail
      obtain ⟨j0, j1, j2⟩ := cells3v HSt.out
      exact bodyPost_ret (v := .tuple #[.agg #[.int .i64 0, .int .i64 0, .slice none 0 0], .int .i64 1]) (by simp [results, Try.results8, go_sem, j0, j1, j2]) rfl ⟨rfl, HBe.out⟩
    · have h3 : 64 < st := h2.resolve_left h1
      clear h2
      unfold mat at *
      go_enter Try.func8, Try.ntmps8
      have Hm0 := Lib.hid ((Blk.new w 24 #[.slice Am nm cm, .int .i64 mo, .int .i64 mr, .int .i64 mk, .int .i64 ml]).alloc (.cells #[.int .i64 0, .int .i64 0, .slice none 0 0] 28))
      have Hr0 := Lib.hid (Blk.new_ (w.alloc (.cells #[.slice Am nm cm, .int .i64 mo, .int .i64 mr, .int .i64 mk, .int .i64 ml] 24)) 28 #[.int .i64 0, .int .i64 0, .slice none 0 0] (w.heap.size + 1) (by simp))
      have HB0 := Lib.hid (((Below.refl w.heap.size w).alloc (Nat.le_refl _) (.cells #[.slice Am nm cm, .int .i64 mo, .int .i64 mr, .int .i64 mk, .int .i64 ml] 24)).alloc (by simp) (.cells #[.int .i64 0, .int .i64 0, .slice none 0 0] 28))
      obtain ⟨c0, c1, c2, c3, c4⟩ := cells5 Hm0.out
      go_wp2_with fail
      refine (HG.out _).mono ?_
      rintro e w1 ⟨rfl, hb⟩
      have Hm1 := Lib.hid (Hm0.out.nxt hb)
      have Hr1 := Lib.hid (Hr0.out.nxt hb)
      have HB1 := Lib.hid (below_nx HB0.out hb)
      clear hb c0 c1 c2 c3 c4
      obtain ⟨c0, c1, c2, c3, c4⟩ := cells5 Hm1.out
      obtain ⟨r0, r1, r2⟩ := cells3v Hr1.out
      obtain ⟨z0, z1, z2⟩ := frozen3v Hr1.out
      have HSt := Lib.hid (Hr1.out.store3v (.int .i64 0) (.int .i64 0) (.slice none 0 0))
      have HBe := Lib.hid (below3g HB1.out (show w.heap.size ≤ w.heap.size + 1 by omega) (.int .i64 0) (.int .i64 0) (.slice none 0 0))
      go_wp2_with fail
      obtain ⟨j0, j1, j2⟩ := cells3v HSt.out
      exact bodyPost_ret (v := .tuple #[.agg #[.int .i64 0, .int .i64 0, .slice none 0 0], .int .i64 1]) (by simp [results, Try.results8, go_sem, j0, j1, j2]) rfl ⟨rfl, HBe.out⟩
end Go.Proofs.Ytbjopdnfjjcpoaa
