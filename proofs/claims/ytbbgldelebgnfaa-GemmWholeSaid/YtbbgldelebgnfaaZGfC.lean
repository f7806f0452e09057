/-
Gemm: times; what the numbers of a product are. Conditions: as each says.
-/
import Derived.Test.YtbbgldelebgnfaaZGfB
import Derived.Test.YtbbgldelebgnfaaZGeE
import Derived.Test.YtbbgldelebgnfaaUaao
set_option linter.unusedVariables false
set_option linter.unusedSimpArgs false
set_option linter.unnecessarySimpa false
namespace Go.Proofs.Ytbbgldelebgnfaa
open Go.RowKit
attribute [local go_sem ↓] Go.wp_at_zero Go.wp_at_succ

theorem dense_ate {T M : List Nat} {r n i k : Nat} (h : Dense T r n M) (hi : i < r) (hk : k < n) : M.getD (0 + k * r + i) 0 = T.getD (i * n + k) 0 := by
  have h1 := tab_lt hi hk
  have h2 := h.2 _ h1
  have e1 : (i * n + k) / n = i := by
    rw [Nat.mul_comm, Nat.mul_add_div (by omega), Nat.div_eq_of_lt hk, Nat.add_zero]
  have e2 : (i * n + k) % n = k := by
    rw [Nat.mul_comm, Nat.mul_add_mod, Nat.mod_eq_of_lt hk]
  unfold spot at h2
  rw [e1, e2] at h2
  rw [Nat.zero_add, Nat.add_comm]
  exact h2
theorem dense_wdse {T M : List Nat} {r n : Nat} (h : Dense T r n M) (hW : Wds T) : Wds M := by
  intro b hb
  obtain ⟨j, hj, rfl⟩ := List.getElem_of_mem hb
  rw [h.1] at hj
  have hr : 0 < r := by
    rcases Nat.eq_zero_or_pos r with e | e
    · rw [e, Nat.zero_mul] at hj; omega
    · exact e
  have h1 := dense_ate h (Nat.mod_lt j hr) ((Nat.div_lt_iff_lt_mul hr).2 (by rw [Nat.mul_comm]; exact hj))
  have e : 0 + j / r * r + j % r = j := by rw [Nat.zero_add, Nat.mul_comm]; exact Nat.div_add_mod j r
  rw [e, getD_of_lt (by rw [h.1]; exact hj)] at h1
  rw [h1]
  exact getD_wds hW _
theorem own_offe {W W' : World} {g p : Nat} {l : List Nat} (h : Own W g l) (hne : g ≠ p) (hb : ∀ k, k ≠ p → W'.heap[k]? = W.heap[k]?) : Own W' g l := by
  obtain ⟨cs, h1, h2⟩ := h
  exact ⟨cs, (hb g hne).trans h1, h2⟩
def ONEe : Nat := 4607182418800017408
theorem beg_zero0 {y s : Nat} (h : BegR 0 y s) : s = 0 := by
  have e : zB 0 = true := by decide
  unfold BegR at h
  rw [if_pos e] at h
  exact h
theorem begF_zero : begF 0 0 = 0 := by
  have e : zB 0 = true := by decide
  unfold begF
  rw [if_pos e]
theorem GeR.is2 {M : List Nat} {o L : Nat} {lx : List Nat} {om Lm : Nat} {ly : List Nat} {oy Ly K i j r : Nat} {f g : Nat → Nat} (hx : ∀ k, k < K → Is (lx.getD (om + i + k * Lm) 0) (f k)) (hy : ∀ k, k < K → Is (ly.getD (oy + k + j * Ly) 0) (g k)) (h : GeR ONEe 0 M o L lx om Lm ly oy Ly K i j r) :
    Is r (geF ONEe 0 0 f g K) := by
  obtain ⟨s, h1, h2⟩ := h
  have h1 := beg_zero0 h1
  subst h1
  refine Chn.is_ (z := begF 0 0) (by rw [begF_zero]; exact Is.refl (by omega)) (fun k hk s r hS => ?_) h2
  obtain ⟨p, ⟨q, k1, k2⟩, k3⟩ := hS
  have e1 := hy k hk
  have e2 := hx k hk
  rw [show oy + k + j * Ly = oy + j * Ly + k * 1 by omega] at e1
  rw [show om + i + k * Lm = om + k * Lm + i by omega] at e2
  exact ⟨p, k2.is_ (k1.is_ (Is.refl (by unfold ONEe; omega)) e1) e2, k3⟩
theorem GeT.is2 {TX : List Nat} {K : Nat} {TY TZ : List Nat} {C i j r : Nat} {f g : Nat → Nat} (hx : ∀ k, k < K → Is (TX.getD (i * K + k) 0) (f k)) (hy : ∀ k, k < K → Is (TY.getD (k * C + j) 0) (g k)) (h : GeT ONEe 0 TX K TY TZ C i j r) : Is r (geF ONEe 0 0 f g K) := by
  obtain ⟨s, h1, h2⟩ := h
  have h1 := beg_zero0 h1
  subst h1
  refine Chn.is_ (z := begF 0 0) (by rw [begF_zero]; exact Is.refl (by omega)) (fun k hk s r hS => ?_) h2
  obtain ⟨p, ⟨q, k1, k2⟩, k3⟩ := hS
  exact ⟨p, k2.is_ (k1.is_ (Is.refl (by unfold ONEe; omega)) (hy k hk)) (hx k hk), k3⟩
theorem dense_room {R C N D : Nat} (hN : R * C = N) (hD : max 1 R = D) : R = 0 ∨ C = 0 ∨ 0 + (C - 1) * D + (R - 1) < N := by
  by_cases h0 : R = 0
  · exact .inl h0
  by_cases h1 : C = 0
  · exact .inr (.inl h1)
  right; right
  have hD2 : D = R := by omega
  subst hD2
  obtain ⟨c, rfl⟩ : ∃ c, C = c + 1 := ⟨C - 1, by omega⟩
  rw [← hN, Nat.add_sub_cancel, Nat.mul_add, Nat.mul_comm c D]
  omega

set_option maxRecDepth 100000 in
set_option maxHeartbeats 2000000 in
theorem getimes_any (gx cx nx : Nat) (lx : List Nat) (om Lm : Nat) (Ay : Option Addr) (cy ny : Nat) (ly : List Nat) (oy Ly R K C N D : Nat) (w : World)
    (hOx : Own w gx lx) (hlx : lx.length = nx) (hnx : nx < 1048576) (hWx : Wds lx) (hL1x : 1 ≤ Lm) (hRLx : R ≤ Lm) (hxr : R = 0 ∨ K = 0 ∨ om + (K - 1) * Lm + (R - 1) < nx) (hom : I64 om) (hLm : I64 Lm)
    (hRy : Row w Ay (f64s ly)) (hly : ly.length = ny) (hny : ny < 1048576) (hWy : Wds ly) (hL1y : 1 ≤ Ly) (hRLy : K ≤ Ly) (hyr : K = 0 ∨ C = 0 ∨ oy + (C - 1) * Ly + (K - 1) < ny) (hoy : I64 oy) (hLy : I64 Ly) (hfz : ∀ p q, Ay = some ⟨p, q, none⟩ → ly ≠ [] → w.frozen? ⟨p, q, none⟩ = false)
    (hRb : R ≤ 64) (hKb : K < 1048576) (hCb : C ≤ 64) (hN : R * C = N) (hD : max 1 R = D) :
    Calls Try.prog 38 #[mat (some ⟨gx, 0, none⟩) nx cx om R K Lm, mat Ay ny cy oy K C Ly] w fun e w' => ∃ (g : Nat) (l' M : List Nat), e = .returned (mat (some ⟨g, 0, none⟩) N N 0 R C D) ∧ Own w' g l' ∧ l'.length = N ∧ Wds l' ∧ (∀ a, a < R → ∀ b, b < C → GeR ONEe 0 M 0 D lx om Lm ly oy Ly K a b (l'.getD (0 + a + b * D) 0)) ∧ w.heap.size ≤ g ∧ Below w.heap.size w w' := by
  have hNb : N ≤ 4096 := by
    have h1 : R * C ≤ 64 * 64 := Nat.mul_le_mul hRb hCb
    omega
  have hrz := dense_room hN hD
  have HDn := Lib.hid (fun W => show Calls Try.prog 20 #[.int .i64 (R : Int), .int .i64 (C : Int), .slice none 0 0] W fun e w' => ∃ g M, e = .returned (.agg #[.slice (some ⟨g, 0, none⟩) N N, .int .i64 0, .int .i64 (R : Int), .int .i64 (C : Int), .int .i64 (D : Int)]) ∧ M.length = N ∧ Wds M ∧ Own w' g M ∧ W.heap.size ≤ g ∧ Below W.heap.size W w' from by
    have := dense_blk none 0 [] R C W hRb hCb (.inl rfl) (by simp) (by simp)
    rw [hN, hD] at this
    refine this.mono ?_
    rintro e w' ⟨g', M, rfl, hd, hB, hg, hb⟩
    exact ⟨g', M, by simp [mat], by rw [hd.1, hN], dense_wdse hd (by intro b hb; cases hb), own_blk hB, hg, hb⟩)
  have HMu := Lib.hid (fun (g : Nat) (M : List Nat) W (hb : Below w.heap.size w W) (hz : w.heap.size ≤ g) (hM : M.length = N) (hW : Wds M) (hO : Own W g M) => show Calls Try.prog 9 #[.float .f64 4607182418800017408, .agg #[.slice (some ⟨gx, 0, none⟩) nx cx, .int .i64 (om : Int), .int .i64 (R : Int), .int .i64 (K : Int), .int .i64 (Lm : Int)], .agg #[.slice Ay ny cy, .int .i64 (oy : Int), .int .i64 (K : Int), .int .i64 (C : Int), .int .i64 (Ly : Int)], .float .f64 0, .agg #[.slice (some ⟨g, 0, none⟩) N N, .int .i64 0, .int .i64 (R : Int), .int .i64 (C : Int), .int .i64 (D : Int)]] W fun e w' => e = .returned (.int .i64 0) ∧ ∃ l', Own w' g l' ∧ l'.length = N ∧ Wds l' ∧ (∀ a, a < R → ∀ b, b < C → GeR ONEe 0 M 0 D lx om Lm ly oy Ly K a b (l'.getD (0 + a + b * D) 0)) ∧ Chg [g] W w' from by
    refine (gemul_far 4607182418800017408 0 gx cx nx lx om Lm Ay cy ny ly oy Ly g N N M 0 D R K C W (hOx.nxt hb) hlx hnx hWx hL1x hRLx hxr hom hLm (hRy.below hb) hly hny hWy hL1y hRLy hyr hoy hLy (fun p q e h => (hb.frozen (p := ⟨p, q, none⟩) (by
      have h0 : 0 < ly.length := List.length_pos_iff.2 h
      obtain ⟨b', o', e', hlt, _⟩ := hRy.at_ (f64s_get ly 0 h0)
      rw [e] at e'
      injection e' with e'
      injection e' with e1 e2
      subst e1
      exact hlt)).trans (hfz p q e h)) (fun p q e h => by
      have h0 : 0 < ly.length := List.length_pos_iff.2 h
      obtain ⟨b', o', e', hlt, _⟩ := hRy.at_ (f64s_get ly 0 h0)
      rw [e] at e'
      injection e' with e'
      injection e' with e1 e2
      subst e1
      omega) hO hM (by omega) hW (by omega) (by omega) hrz (by unfold I64; omega) (by unfold I64; omega) (by omega) hKb (by omega) (by have := hOx.lt; omega)).mono ?_
    rintro e w' ⟨e1, l', k1, k2, k3⟩
    exact ⟨e1, l', k1, by rw [k2.1, hM], wds_imre hW k2 (fun a _ b _ r h => h.lt), k2.2.1, k3⟩)
  clear hOx hlx hnx hWx hL1x hRLx hxr hom hLm hRy hly hny hWy hL1y hRLy hyr hoy hLy hfz hRb hKb hCb hN hD hNb hrz
  unfold mat at *
  go_enter Try.func38, Try.ntmps38
  have Hx0 := Lib.hid (((Blk.new w 25 #[.slice (some ⟨gx, 0, none⟩) nx cx, .int .i64 (om : Int), .int .i64 (R : Int), .int .i64 (K : Int), .int .i64 (Lm : Int)]).alloc (.cells #[.slice Ay ny cy, .int .i64 (oy : Int), .int .i64 (K : Int), .int .i64 (C : Int), .int .i64 (Ly : Int)] 25)).alloc (.cells #[.slice none 0 0, .int .i64 0, .int .i64 0, .int .i64 0, .int .i64 0] 25))
  have Hy0 := Lib.hid ((Blk.new_ (w.alloc (.cells #[.slice (some ⟨gx, 0, none⟩) nx cx, .int .i64 (om : Int), .int .i64 (R : Int), .int .i64 (K : Int), .int .i64 (Lm : Int)] 25)) 25 #[.slice Ay ny cy, .int .i64 (oy : Int), .int .i64 (K : Int), .int .i64 (C : Int), .int .i64 (Ly : Int)] (w.heap.size + 1) (by simp)).alloc (.cells #[.slice none 0 0, .int .i64 0, .int .i64 0, .int .i64 0, .int .i64 0] 25))
  have He0 := Lib.hid (Blk.new_ ((w.alloc (.cells #[.slice (some ⟨gx, 0, none⟩) nx cx, .int .i64 (om : Int), .int .i64 (R : Int), .int .i64 (K : Int), .int .i64 (Lm : Int)] 25)).alloc (.cells #[.slice Ay ny cy, .int .i64 (oy : Int), .int .i64 (K : Int), .int .i64 (C : Int), .int .i64 (Ly : Int)] 25)) 25 #[.slice none 0 0, .int .i64 0, .int .i64 0, .int .i64 0, .int .i64 0] (w.heap.size + 1 + 1) (by simp))
  have HB0 := Lib.hid ((((Below.refl w.heap.size w).alloc (Nat.le_refl _) (.cells #[.slice (some ⟨gx, 0, none⟩) nx cx, .int .i64 (om : Int), .int .i64 (R : Int), .int .i64 (K : Int), .int .i64 (Lm : Int)] 25)).alloc (by simp) (.cells #[.slice Ay ny cy, .int .i64 (oy : Int), .int .i64 (K : Int), .int .i64 (C : Int), .int .i64 (Ly : Int)] 25)).alloc (by simp; omega) (.cells #[.slice none 0 0, .int .i64 0, .int .i64 0, .int .i64 0, .int .i64 0] 25))
  obtain ⟨x0, x1, x2, x3, x4⟩ := cells5 Hx0.out
  obtain ⟨y0, y1, y2, y3, y4⟩ := cells5 Hy0.out
  go_wp2_with fail
  refine (HDn.out _).mono ?_
  rintro e w1 ⟨g, M, rfl, hM, hW, hO, hg, hb⟩
  have HM := Lib.hid (And.intro hM hW)
  have Hx1 := Lib.hid ((Hx0.out.nxt hb).alloc (.cells #[.slice (some ⟨g, 0, none⟩) N N, .int .i64 0, .int .i64 (R : Int), .int .i64 (C : Int), .int .i64 (D : Int)] 25))
  have Hy1 := Lib.hid ((Hy0.out.nxt hb).alloc (.cells #[.slice (some ⟨g, 0, none⟩) N N, .int .i64 0, .int .i64 (R : Int), .int .i64 (C : Int), .int .i64 (D : Int)] 25))
  have He1 := Lib.hid ((He0.out.nxt hb).alloc (.cells #[.slice (some ⟨g, 0, none⟩) N N, .int .i64 0, .int .i64 (R : Int), .int .i64 (C : Int), .int .i64 (D : Int)] 25))
  have Hz1 := Lib.hid (Blk.new w1 25 #[.slice (some ⟨g, 0, none⟩) N N, .int .i64 0, .int .i64 (R : Int), .int .i64 (C : Int), .int .i64 (D : Int)])
  have HO1 := Lib.hid (hO.nxt (below_one (o := (.cells #[.slice (some ⟨g, 0, none⟩) N N, .int .i64 0, .int .i64 (R : Int), .int .i64 (C : Int), .int .i64 (D : Int)] 25))))
  have HB1 := Lib.hid (below_al (below_nx HB0.out hb) (o := (.cells #[.slice (some ⟨g, 0, none⟩) N N, .int .i64 0, .int .i64 (R : Int), .int .i64 (C : Int), .int .i64 (D : Int)] 25)))
  have hsz := hb.size
  have HNe := Lib.hid (show w.heap.size ≤ g ∧ w.heap.size + 3 ≤ w1.heap.size from ⟨by simp at hg; omega, by simp at hsz; omega⟩)
  clear hb hO hM hW hg hsz x0 x1 x2 x3 x4 y0 y1 y2 y3 y4
  generalize hzb : w1.heap.size = zb at *
  have HNe2 := Lib.hid (show w.heap.size ≤ g ∧ w.heap.size + 3 ≤ zb from HNe.out)
  obtain ⟨x0, x1, x2, x3, x4⟩ := cells5 Hx1.out
  obtain ⟨y0, y1, y2, y3, y4⟩ := cells5 Hy1.out
  obtain ⟨z0, z1, z2, z3, z4⟩ := cells5 Hz1.out
  go_wp2_with fail
  refine (HMu.out g M _ HB1.out HNe2.out.1 HM.out.1 HM.out.2 HO1.out).mono ?_
  rintro e w3 ⟨rfl, l', ho, hl, hw, hr, hc⟩
  have HR := Lib.hid (And.intro hl (And.intro hw hr))
  have HO3 := Lib.hid ho
  have He3 := Lib.hid (hc.blk (fun h => own_ne HO1.out He1.out (by decide) (List.mem_singleton.1 h).symm) He1.out)
  have Hz3 := Lib.hid (hc.blk (fun h => own_ne HO1.out Hz1.out (by decide) (List.mem_singleton.1 h).symm) Hz1.out)
  have HB3 := Lib.hid (hc.below HB1.out HB1.out.size (by intro x hx; simp at hx; subst hx; exact HNe2.out.1))
  clear ho hl hw hr hc x0 x1 x2 x3 x4 y0 y1 y2 y3 y4 z0 z1 z2 z3 z4
  obtain ⟨z0, z1, z2, z3, z4⟩ := cells5 Hz3.out
  obtain ⟨e0, e1, e2, e3, e4⟩ := cells5 He3.out
  obtain ⟨f0, f1, f2, f3, f4⟩ := frozen5 He3.out
  have HSt := Lib.hid (He3.out.store5 (.slice (some ⟨g, 0, none⟩) N N) (.int .i64 0) (.int .i64 (R : Int)) (.int .i64 (C : Int)) (.int .i64 (D : Int)))
  have HBe := Lib.hid (below_sets5 HB3.out (show w.heap.size ≤ w.heap.size + 1 + 1 by omega) (.slice (some ⟨g, 0, none⟩) N N) (.int .i64 0) (.int .i64 (R : Int)) (.int .i64 (C : Int)) (.int .i64 (D : Int)))
  have HKe := Lib.hid (own_offe HO3.out (own_ne HO3.out He3.out (by decide)) (fun k (hk : k ≠ w.heap.size + 1 + 1) => heap_sets5 (w := w3) hk (.slice (some ⟨g, 0, none⟩) N N) (.int .i64 0) (.int .i64 (R : Int)) (.int .i64 (C : Int)) (.int .i64 (D : Int))))
  go_wp2_with fail
  obtain ⟨j0, j1, j2, j3, j4⟩ := cells5 HSt.out
  exact bodyPost_ret (v := .agg #[.slice (some ⟨g, 0, none⟩) N N, .int .i64 0, .int .i64 (R : Int), .int .i64 (C : Int), .int .i64 (D : Int)]) (by simp [results, Try.results38, go_sem, j0, j1, j2, j3, j4]) rfl ⟨g, l', M, rfl, HKe.out, HR.out.1, HR.out.2.1, HR.out.2.2, HNe2.out.1, HBe.out⟩
end Go.Proofs.Ytbbgldelebgnfaa
