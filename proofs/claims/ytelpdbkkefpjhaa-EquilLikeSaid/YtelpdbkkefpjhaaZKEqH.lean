/-
Equil: Scale. Conditions: as each says.
-/
import Derived.Test.YtelpdbkkefpjhaaZKEqC
import Derived.Test.YtelpdbkkefpjhaaZKGrD
import Derived.Test.YtelpdbkkefpjhaaZKCl
import Derived.Test.YtelpdbkkefpjhaaZKFn
import Derived.Test.YtelpdbkkefpjhaaWKm
import Derived.Test.YtelpdbkkefpjhaaZKGrE
import Derived.Test.YtelpdbkkefpjhaaWKd
import Derived.Test.YtelpdbkkefpjhaaWKh
import Derived.Test.YtelpdbkkefpjhaaZKSt
import Derived.Test.YtelpdbkkefpjhaaWKe
import Derived.Test.YtelpdbkkefpjhaaZKVwF
set_option linter.unusedVariables false
set_option linter.unusedSimpArgs false
set_option linter.unnecessarySimpa false
namespace Go.Proofs.Ytelpdbkkefpjhaa
open Go.RowKit
attribute [local go_sem ↓] Go.wp_at_zero Go.wp_at_succ

/-- The matrix that Scale makes. -/
def SclS (zr zc : List Int) (l : List Nat) (o R C L D N : Nat) (M : List Nat) : Prop := M.length = N ∧ ∀ i, i < R → ∀ j, j < C → M.getD (i + j * D) 0 = Fl.scale (l.getD (o + i + j * L) 0) (shfE (zr.getD i 0) (zc.getD j 0))
theorem row_far {W : World} {B : Option Addr} {zs : List Int} {g : Nat} (h : Row W B (i64s zs)) (hg : W.heap.size ≤ g) : ∀ b y, B = some ⟨b, y, none⟩ → b ≠ g ∨ zs = [] := by
  intro b y hB
  cases zs with
  | nil => exact .inr rfl
  | cons z zs =>
    subst hB
    obtain ⟨b2, x, e, _, hc⟩ := h.at_ (i64s_get (z :: zs) 0 (by simp))
    injection e with e
    injection e with e _
    subst e
    have := block_lt hc
    exact .inl (by omega)
theorem mat_room {R C D N : Nat} (hN : R * C = N) (hD : max 1 R = D) : R = 0 ∨ C = 0 ∨ 0 + (C - 1) * D + (R - 1) < N := by
  rcases Nat.eq_zero_or_pos R with h | h
  · exact .inl h
  · rcases Nat.eq_zero_or_pos C with h2 | h2
    · exact .inr (.inl h2)
    · have hD2 : D = R := by omega
      subst hD2
      have h3 : D * C = (C - 1) * D + D := by
        have e : C = (C - 1) + 1 := by omega
        rw [Nat.mul_comm]
        conv => lhs; rw [e]
        rw [Nat.add_mul, Nat.one_mul]
      exact .inr (.inr (by omega))
set_option maxHeartbeats 2000000 in
theorem eqscale_ok (A : Option Addr) (n c : Nat) (l : List Nat) (o R C L D N : Nat) (B : Option Addr) (rc : Nat) (zr : List Int) (E : Option Addr) (kc : Nat) (zc : List Int) (w : World) (hA : Row w A (f64s l)) (hW : Wds l) (hl : l.length = n) (hnc : n ≤ c) (hn : n < 1048576) (hoI : I64 o) (hLI : I64 L) (hR : R ≤ 64) (hC : C ≤ 64) (hL1 : 1 ≤ L) (hRL : R ≤ L) (hmr : R = 0 ∨ C = 0 ∨ o + (C - 1) * L + (R - 1) < n) (hN : R * C = N) (hD : max 1 R = D)
    (hZr : Row w B (i64s zr)) (hzr : zr.length = R) (hZc : Row w E (i64s zc)) (hzc : zc.length = C) :
    Calls Try.prog 15 #[mat A n c o R C L, .slice B R rc, .slice E C kc] w fun e w' => ∃ g M, e = .returned (.tuple #[mat (some ⟨g, 0, none⟩) N N 0 R C D, .int .i64 0]) ∧ SclS zr zc l o R C L D N M ∧ Own w' g M ∧ w.heap.size ≤ g ∧ Below w.heap.size w w' := by
  have hNb : N ≤ 4096 := by
    have h1 : R * C ≤ 64 * 64 := Nat.mul_le_mul hR hC
    omega
  have HCl := Lib.hid (fun W (hb : Below w.heap.size w W) => show Calls Try.prog 37 #[mat A n c o R C L] W fun e w' => ∃ g, e = .returned (.tuple #[mat (some ⟨g, 0, none⟩) N N 0 R C D, .int .i64 0]) ∧ Own w' g (colsL l o R L C) ∧ W.heap.size ≤ g ∧ Below W.heap.size W w' from by
    refine (clone_ok A n c l o R C L N D W (hA.below hb) hl hnc hn (by unfold I64 at hoI hLI; omega) hN hD hL1 hRL hmr).mono ?_
    rintro e w' ⟨g, h1, h2, h3, h4⟩
    exact ⟨g, h1, own_blk h2, h3, h4⟩)
  have HSh := Lib.hid (fun (g : Nat) W (hb : Below w.heap.size w W) (hg : w.heap.size ≤ g) (hO : Own W g (colsL l o R L C)) => show Calls Try.prog 38 #[mat (some ⟨g, 0, none⟩) N N 0 R C D, .slice B R rc, .slice E C kc] W fun e w' => e = .returned (.int .i64 0) ∧ ∃ M, SclS zr zc l o R C L D N M ∧ Own w' g M ∧ Chg [g] W w' from by
    have hX : (colsL l o R L C).length = N := by rw [colsL_length, Nat.mul_comm, hN]
    refine (grshift_ok g N N (colsL l o R L C) 0 R C D B rc zr E kc zc W hO (colsL_wds hW _ _ _ _) hX (by omega) (by omega) (by omega) (by unfold I64; omega) (by unfold I64; omega) (by omega) (by omega) (mat_room hN hD) (hZr.below hb) hzr (fun b y e => row_far hZr hg b y e) (hZc.below hb) hzc (fun b y e => row_far hZc hg b y e)).mono ?_
    rintro e w' ⟨h1, M, h2, h3, h4⟩
    refine ⟨h1, M, ⟨h3.1.trans hX, fun i hi j hj => ?_⟩, h2, h4⟩
    have h5 := h3.2.1 i hi j hj
    have hD2 : D = R := by omega
    unfold ShfR at h5
    rw [Nat.zero_add] at h5
    rw [h5, hD2]
    have h6 := colsL_getD l o R L hi hj
    rw [Nat.add_comm i (j * R), h6])
  clear hA hW hl hnc hn hoI hLI hR hC hL1 hRL hmr hN hD hNb hZr hzr hZc hzc
  unfold mat at *
  go_enter Try.func15, Try.ntmps15
  have HZ0 := Lib.hid ((Blk.new w 24 #[.slice A n c, .int .i64 o, .int .i64 R, .int .i64 C, .int .i64 L]).alloc (.cells #[.slice none 0 0, .int .i64 0, .int .i64 0, .int .i64 0, .int .i64 0] 24))
  have HE0 := Lib.hid (Blk.new_ (w.alloc (.cells #[.slice A n c, .int .i64 o, .int .i64 R, .int .i64 C, .int .i64 L] 24)) 24 #[.slice none 0 0, .int .i64 0, .int .i64 0, .int .i64 0, .int .i64 0] (w.heap.size + 1) (by simp))
  have HB0 := Lib.hid (((Below.refl w.heap.size w).alloc (Nat.le_refl _) (.cells #[.slice A n c, .int .i64 o, .int .i64 R, .int .i64 C, .int .i64 L] 24)).alloc (by simp) (.cells #[.slice none 0 0, .int .i64 0, .int .i64 0, .int .i64 0, .int .i64 0] 24))
  obtain ⟨c0, c1, c2, c3, c4⟩ := cells5 HZ0.out
  go_wp2_with fail
  refine (HCl.out _ HB0.out).mono ?_
  rintro e w1 ⟨g, rfl, hO, hg, hb⟩
  have Hg := Lib.hid (show w.heap.size + 1 < g by have := HE0.out.lt; omega)
  have Hgl := Lib.hid hO.lt
  have HE1 := Lib.hid ((HE0.out.nxt hb).alloc (.cells #[.slice (some ⟨g, 0, none⟩) N N, .int .i64 0, .int .i64 R, .int .i64 C, .int .i64 D] 24))
  have HM1 := Lib.hid (Blk.new w1 24 #[.slice (some ⟨g, 0, none⟩) N N, .int .i64 0, .int .i64 R, .int .i64 C, .int .i64 D])
  have HO1 := Lib.hid (hO.nxt (below_one (o := (.cells #[.slice (some ⟨g, 0, none⟩) N N, .int .i64 0, .int .i64 R, .int .i64 C, .int .i64 D] 24))))
  have HB1 := Lib.hid (below_al (below_nx HB0.out hb) (o := (.cells #[.slice (some ⟨g, 0, none⟩) N N, .int .i64 0, .int .i64 R, .int .i64 C, .int .i64 D] 24)))
  clear hb hO hg c0 c1 c2 c3 c4
  obtain ⟨c0, c1, c2, c3, c4⟩ := cells5 HM1.out
  go_wp2_with fail
  refine (HSh.out g _ HB1.out (by have := Hg.out; omega) HO1.out).mono ?_
  rintro e w2 ⟨rfl, M, hM, hO, hch⟩
  have HMs := Lib.hid hM
  have HO2 := Lib.hid hO
  have HE2 := Lib.hid (hch.blk (by simp; have := Hg.out; omega) HE1.out)
  have HM2 := Lib.hid (hch.blk (by simp; have := Hgl.out; omega) HM1.out)
  have HB2 := Lib.hid (hch.below HB1.out HB1.out.size (by intro x hx; simp at hx; have := Hg.out; omega))
  clear hM hO hch c0 c1 c2 c3 c4
  obtain ⟨c0, c1, c2, c3, c4⟩ := cells5 HM2.out
  obtain ⟨t0, t1, t2, t3, t4⟩ := cells5 HE2.out
  obtain ⟨f0, f1, f2, f3, f4⟩ := frozen5 HE2.out
  have HSt := Lib.hid (HE2.out.store5 (.slice (some ⟨g, 0, none⟩) N N) (.int .i64 0) (.int .i64 R) (.int .i64 C) (.int .i64 D))
  have hgq : g ≠ w.heap.size + 1 := by have := Hg.out; omega
  have HOe := Lib.hid (((((HO2.out.other (p := ⟨w.heap.size + 1, 0, none⟩) hgq (.slice (some ⟨g, 0, none⟩) N N)).other (p := ⟨w.heap.size + 1, 1, none⟩) hgq (.int .i64 0)).other (p := ⟨w.heap.size + 1, 2, none⟩) hgq (.int .i64 R)).other (p := ⟨w.heap.size + 1, 3, none⟩) hgq (.int .i64 C)).other (p := ⟨w.heap.size + 1, 4, none⟩) hgq (.int .i64 D))
  have HBe := Lib.hid (below_sets5 HB2.out (show w.heap.size ≤ w.heap.size + 1 by omega) (.slice (some ⟨g, 0, none⟩) N N) (.int .i64 0) (.int .i64 R) (.int .i64 C) (.int .i64 D))
  go_wp2_with fail
  obtain ⟨j0, j1, j2, j3, j4⟩ := cells5 HSt.out
  exact bodyPost_ret (v := .tuple #[.agg #[.slice (some ⟨g, 0, none⟩) N N, .int .i64 0, .int .i64 R, .int .i64 C, .int .i64 D], .int .i64 0]) (by simp [results, Try.results15, go_sem, j0, j1, j2, j3, j4]) rfl ⟨g, M, rfl, HMs.out, HOe.out, by have := Hg.out; omega, HBe.out⟩
end Go.Proofs.Ytelpdbkkefpjhaa
