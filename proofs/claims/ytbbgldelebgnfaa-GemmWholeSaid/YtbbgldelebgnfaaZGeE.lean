/-
Gemm: by both the same numbers; the law's example. Conditions: as each says.
-/
import Derived.Test.YtbbgldelebgnfaaZGeC
import Derived.Test.YtbbgldelebgnfaaZGeD
import Derived.Test.YtbbgldelebgnfaaZGvY
import Derived.Test.YtbbgldelebgnfaaUaao
import Derived.Test.YtbbgldelebgnfaaUaae
set_option linter.unusedVariables false
set_option linter.unusedSimpArgs false
set_option linter.unnecessarySimpa false
namespace Go.Proofs.Ytbbgldelebgnfaa
open Go.RowKit
attribute [local go_sem ↓] Go.wp_at_zero Go.wp_at_succ

theorem alike_imge {l l' l2 : List Nat} {o R C L : Nat} {P : Nat → Nat → Nat → Prop} {T : Nat → Nat → Nat} (h : Imr l o R C L P l') (h2 : Img l o R C L T l2) (hs : ∀ a, a < R → ∀ b, b < C → ∀ r, P a b r → sameB r (T a b) = true) : Alike l' l2 := by
  refine ⟨h.1.trans h2.1.symm, fun x hx hx2 => ?_⟩
  rw [← getD_of_lt hx, ← getD_of_lt hx2]
  by_cases e : ∃ a, a < R ∧ ∃ b, b < C ∧ x = o + a + b * L
  · obtain ⟨a, ha, b, hb, rfl⟩ := e
    rw [h2.2.1 a ha b hb]
    exact hs a ha b hb _ (h.2.1 a ha b hb)
  · have e2 : ∀ a, a < R → ∀ b, b < C → x ≠ o + a + b * L := fun a ha b hb e3 => e ⟨a, ha, b, hb, e3⟩
    rw [h.2.2 x e2, h2.2.2 x e2]
    exact sameB_refl _
theorem wds_of_getDe {l : List Nat} (h : ∀ k, k < l.length → l.getD k 0 < 18446744073709551616) : Wds l := by
  intro b hb
  obtain ⟨k, hk, rfl⟩ := List.mem_iff_getElem.1 hb
  rw [← getD_of_lt hk]
  exact h k hk
theorem wds_imre {l l' : List Nat} {o R C L : Nat} {P : Nat → Nat → Nat → Prop} (hl : Wds l) (h : Imr l o R C L P l') (hp : ∀ a, a < R → ∀ b, b < C → ∀ r, P a b r → r < 18446744073709551616) : Wds l' := by
  refine wds_of_getDe fun x hx => ?_
  by_cases e : ∃ a, a < R ∧ ∃ b, b < C ∧ x = o + a + b * L
  · obtain ⟨a, ha, b, hb, rfl⟩ := e
    exact hp a ha b hb _ (h.2.1 a ha b hb)
  · rw [h.2.2 x (fun a ha b hb e3 => e ⟨a, ha, b, hb, e3⟩)]
    exact getD_wds hl _
theorem wds_img2e {l l' : List Nat} {o R C L : Nat} {T : Nat → Nat → Nat} (hl : Wds l) (h : Img l o R C L T l') (hp : ∀ a, a < R → ∀ b, b < C → T a b < 18446744073709551616) : Wds l' := by
  refine wds_of_getDe fun x hx => ?_
  by_cases e : ∃ a, a < R ∧ ∃ b, b < C ∧ x = o + a + b * L
  · obtain ⟨a, ha, b, hb, rfl⟩ := e
    rw [h.2.1 a ha b hb]
    exact hp a ha b hb
  · rw [h.2.2 x (fun a ha b hb e3 => e ⟨a, ha, b, hb, e3⟩)]
    exact getD_wds hl _
theorem tab_wdse {l T : List Nat} {o R C L N : Nat} (h : Tab l o R C L N T) (hN : R * C = N) (hl : Wds l) : Wds T := by
  refine wds_of_getDe fun x hx => ?_
  rw [h.1] at hx
  have hC : 0 < C := by
    rcases Nat.eq_zero_or_pos C with e | e
    · subst e; simp at hx
    · exact e
  have hi : x / C < R := Nat.div_lt_of_lt_mul (by rw [Nat.mul_comm]; exact hx)
  have e : x / C * C + x % C = x := by rw [Nat.mul_comm]; exact Nat.div_add_mod x C
  have h1 := tab_get h hN hi (Nat.mod_lt x hC)
  rw [e] at h1
  rw [h1]; exact getD_wds hl _
theorem Is.trans_eq {r z z' : Nat} (h : Is r z) (e : z = z') : Is r z' := e ▸ h
/-- The number that Mul makes. -/
def geF (a b z : Nat) (f g : Nat → Nat) (K : Nat) : Nat := chnF (begF b z) (fun k => fbin .mul (fbin .mul a (g k)) (f k)) K
theorem geF_congr {a b z z' : Nat} {f f' g g' : Nat → Nat} {K : Nat} (hz : z = z') (hf : ∀ k, k < K → f k = f' k) (hg : ∀ k, k < K → g k = g' k) : geF a b z f g K = geF a b z' f' g' K := by
  unfold geF
  rw [hz]
  exact chnF_congr _ K fun k hk => by rw [hf k hk, hg k hk]
theorem GeR.is_ {a b : Nat} {l : List Nat} {o L : Nat} {lx : List Nat} {om Lm : Nat} {ly : List Nat} {oy Ly K i j r : Nat} (ha : a < 18446744073709551616) (hb : b < 18446744073709551616) (hW : Wds l) (hx : Wds lx) (hy : Wds ly) (h : GeR a b l o L lx om Lm ly oy Ly K i j r) :
    Is r (geF a b (l.getD (o + i + j * L) 0) (fun k => lx.getD (om + i + k * Lm) 0) (fun k => ly.getD (oy + k + j * Ly) 0) K) := by
  have := MulQ.is_ ha hb hW hx hy h
  unfold geF
  have e : o + j * L + i * 1 = o + i + j * L := by omega
  rw [e] at this
  refine this.trans_eq (chnF_congr _ K fun k _ => ?_)
  have e1 : oy + j * Ly + k * 1 = oy + k + j * Ly := by omega
  have e2 : om + k * Lm + i = om + i + k * Lm := by omega
  rw [e1, e2]
theorem GeT.is_ {a b : Nat} {TX : List Nat} {K : Nat} {TY TZ : List Nat} {C i j r : Nat} (ha : a < 18446744073709551616) (hb : b < 18446744073709551616) (hx : Wds TX) (hy : Wds TY) (hz : Wds TZ) (h : GeT a b TX K TY TZ C i j r) :
    Is r (geF a b (TZ.getD (i * C + j) 0) (fun k => TX.getD (i * K + k) 0) (fun k => TY.getD (k * C + j) 0) K) := by
  obtain ⟨s, h1, h2⟩ := h
  exact Chn.is_ (h1.is_ hb (Is.refl (getD_wds hz _))) (fun k _ s r hS => by
    obtain ⟨p, k1, k2⟩ := hS
    exact ⟨p, MulR.is_ ha (getD_wds hx _) (getD_wds hy _) k1, k2⟩) h2
/-- What a product's table has. -/
def GeS (a b : Nat) (l : List Nat) (o L : Nat) (lx : List Nat) (om Lm : Nat) (ly : List Nat) (oy Ly R K C N : Nat) (T : List Nat) : Prop :=
  T.length = N ∧ ∀ i, i < R → ∀ j, j < C → Is (T.getD (i * C + j) 0) (geF a b (l.getD (o + i + j * L) 0) (fun k => lx.getD (om + i + k * Lm) 0) (fun k => ly.getD (oy + k + j * Ly) 0) K)
theorem GeS.of_ref {a b : Nat} {l : List Nat} {o L : Nat} {lx : List Nat} {om Lm : Nat} {ly : List Nat} {oy Ly R K C N NX NY : Nat} {TX TY TZ T' : List Nat} (ha : a < 18446744073709551616) (hb : b < 18446744073709551616) (hl : Wds l) (hx : Wds lx) (hy : Wds ly) (hN : R * C = N) (hNX : R * K = NX) (hNY : K * C = NY) (hTX : Tab lx om R K Lm NX TX) (hTY : Tab ly oy K C Ly NY TY) (hTZ : Tab l o R C L N TZ) (hlen : T'.length = N)
    (h : ∀ i, i < R → ∀ j, j < C → GeT a b TX K TY TZ C i j (T'.getD (i * C + j) 0)) : GeS a b l o L lx om Lm ly oy Ly R K C N T' :=
  ⟨hlen, fun i hi j hj => by
    have := (h i hi j hj).is_ ha hb (tab_wdse hTX hNX hx) (tab_wdse hTY hNY hy) (tab_wdse hTZ hN hl)
    refine this.trans_eq (geF_congr (tab_get hTZ hN hi hj) (fun k hk => tab_get hTX hNX hi hk) (fun k hk => tab_get hTY hNY hk hj))⟩
/-! ### The law's example. -/
def exE2 : List Nat := [4617315517961601024, 4618441417868443648]
def exE0 : List Nat := [0, 0]
def exE4 : List Nat := [4607182418800017408, 4611686018427387904, 4613937818241073152, 4616189618054758400]
def exEd : List Nat := [4607182418800017408, 4613937818241073152, 4611686018427387904, 4616189618054758400]
def exEr : List Nat := [4625478292286210048, 4630685579355357184]
theorem exEr_wds : Wds exEr := by intro b hb; simp [exEr] at hb; omega
theorem exEd_wds : Wds exEd := by intro b hb; simp [exEd] at hb; omega
theorem exE0_wds : Wds exE0 := by intro b hb; simp [exE0] at hb; omega
theorem exE2_wds : Wds exE2 := by intro b hb; simp [exE2] at hb; omega
theorem ex_denseE {M : List Nat} (h : Dense exE4 2 2 M) : M = exEd := by
  obtain ⟨h1, h2⟩ := h
  have a0 := h2 0 (by omega)
  have a1 := h2 1 (by omega)
  have a2 := h2 2 (by omega)
  have a3 := h2 3 (by omega)
  simp [spot] at a0 a1 a2 a3
  match M, h1 with
  | [x0, x1, x2, x3], _ => simp [exE4] at a0 a1 a2 a3; simp [exEd, a0, a1, a2, a3]
theorem ex_denseF {M : List Nat} (h : Dense exE2 2 1 M) : M = exE2 := by
  obtain ⟨h1, h2⟩ := h
  have a0 := h2 0 (by omega)
  have a1 := h2 1 (by omega)
  simp [spot] at a0 a1
  match M, h1 with
  | [x0, x1], _ => simp [exE2] at a0 a1; simp [exE2, a0, a1]
theorem ex_denseG {M : List Nat} (h : Dense [] 2 1 M) : M = exE0 := by
  obtain ⟨h1, h2⟩ := h
  have a0 := h2 0 (by omega)
  have a1 := h2 1 (by omega)
  simp [spot] at a0 a1
  match M, h1 with
  | [x0, x1], _ => simp at a0 a1; simp [exE0, a0, a1]
theorem ex_gemul {l' : List Nat} (h : Imr exE0 0 2 1 2 (GeR 4607182418800017408 0 exE0 0 2 exEd 0 2 exE2 0 2 2) l') : l' = exEr := by
  have key : ∀ a v, a < 2 → geF 4607182418800017408 0 (exE0.getD (0 + a + 0 * 2) 0) (fun k => exEd.getD (0 + a + k * 2) 0) (fun k => exE2.getD (0 + k + 0 * 2) 0) 2 = v → Fl.nan v = false → l'.getD (0 + a + 0 * 2) 0 = v := by
    intro a v ha hv hn
    have := (h.2.1 a ha 0 (by omega)).is_ (by omega) (by omega) exE0_wds exEd_wds exE2_wds
    rw [hv] at this
    exact this.eq_of hn
  refine ext_getD (by rw [h.1]; rfl) fun x hx => ?_
  have hx2 : x < 2 := by rw [h.1] at hx; exact hx
  match x, hx2 with
  | 0, _ => exact key 0 _ (by omega) (by decide +kernel) (by decide)
  | 1, _ => exact key 1 _ (by omega) (by decide +kernel) (by decide)
/-- A new list; a matrix in a list of its own. -/
def NwL (W : World) (v : Value) (l : List Nat) (n : Nat) : Prop := ∃ g, v = .slice (some ⟨g, 0, none⟩) n n ∧ Own W g l
def NwM (W : World) (v : Value) (z : Nat) (l : List Nat) (n R C D : Nat) : Prop := ∃ g, v = .agg #[.slice (some ⟨g, 0, none⟩) n n, .int .i64 0, .int .i64 (R : Int), .int .i64 (C : Int), .int .i64 (D : Int)] ∧ Own W g l ∧ z ≤ g
theorem NwL.below {W W' : World} {v : Value} {l : List Nat} {n : Nat} (h : NwL W v l n) (hb : Below W.heap.size W W') : NwL W' v l n := by
  obtain ⟨g, h1, h2⟩ := h; exact ⟨g, h1, h2.nxt hb⟩
theorem NwM.below {W W' : World} {v : Value} {z : Nat} {l : List Nat} {n R C D : Nat} (h : NwM W v z l n R C D) (hb : Below W.heap.size W W') : NwM W' v z l n R C D := by
  obtain ⟨g, h1, h2, h3⟩ := h; exact ⟨g, h1, h2.nxt hb, h3⟩

set_option maxRecDepth 100000 in
set_option maxHeartbeats 2000000 in
theorem awake11_any (w : World) : Calls Try.prog 6 #[] w fun e w' => e = .returned (.bool true) ∧ Below w.heap.size w w' := by
  have z0 : I64 0 := by unfold I64; omega
  have z1 : I64 1 := by unfold I64; omega
  have z2 : I64 2 := by unfold I64; omega
  have HD1 := Lib.hid (fun (g : Nat) W (hO : Own W g exE4) => show Calls Try.prog 20 #[.int .i64 2, .int .i64 2, .slice (some ⟨g, 0, none⟩) 4 4] W fun e w' => ∃ g, e = .returned (.agg #[.slice (some ⟨g, 0, none⟩) 4 4, .int .i64 0, .int .i64 2, .int .i64 2, .int .i64 2]) ∧ Own w' g exEd ∧ W.heap.size ≤ g ∧ Below W.heap.size W w' from by
    refine (dense_blk (some ⟨g, 0, none⟩) 4 exE4 2 2 W (by omega) (by omega) hO.row (by decide) (by decide)).mono ?_
    rintro e w' ⟨g', M, rfl, hd, hB, hg, hb⟩
    obtain rfl := ex_denseE hd
    exact ⟨g', rfl, own_blk hB, hg, hb⟩)
  have HD2 := Lib.hid (fun (g : Nat) W (hO : Own W g exE2) => show Calls Try.prog 20 #[.int .i64 2, .int .i64 1, .slice (some ⟨g, 0, none⟩) 2 2] W fun e w' => ∃ g, e = .returned (.agg #[.slice (some ⟨g, 0, none⟩) 2 2, .int .i64 0, .int .i64 2, .int .i64 1, .int .i64 2]) ∧ Own w' g exE2 ∧ W.heap.size ≤ g ∧ Below W.heap.size W w' from by
    refine (dense_blk (some ⟨g, 0, none⟩) 2 exE2 2 1 W (by omega) (by omega) hO.row (by decide) (by decide)).mono ?_
    rintro e w' ⟨g', M, rfl, hd, hB, hg, hb⟩
    obtain rfl := ex_denseF hd
    exact ⟨g', rfl, own_blk hB, hg, hb⟩)
  have HD0 := Lib.hid (fun W => show Calls Try.prog 20 #[.int .i64 2, .int .i64 1, .slice none 0 0] W fun e w' => ∃ g, e = .returned (.agg #[.slice (some ⟨g, 0, none⟩) 2 2, .int .i64 0, .int .i64 2, .int .i64 1, .int .i64 2]) ∧ Own w' g exE0 ∧ W.heap.size ≤ g ∧ Below W.heap.size W w' from by
    refine (dense_blk none 0 [] 2 1 W (by omega) (by omega) (.inl rfl) (by decide) (by decide)).mono ?_
    rintro e w' ⟨g', M, rfl, hd, hB, hg, hb⟩
    obtain rfl := ex_denseG hd
    exact ⟨g', rfl, own_blk hB, hg, hb⟩)
  have HMu0 := Lib.hid (fun (g gx gy : Nat) W (hO : Own W g exE0) (hX : Own W gx exEd) (hY : Own W gy exE2) (h1 : gx ≠ g) (h2 : gy ≠ g) => show Calls Try.prog 9 #[.float .f64 4607182418800017408, .agg #[.slice (some ⟨gx, 0, none⟩) 4 4, .int .i64 0, .int .i64 2, .int .i64 2, .int .i64 2], .agg #[.slice (some ⟨gy, 0, none⟩) 2 2, .int .i64 0, .int .i64 2, .int .i64 1, .int .i64 2], .float .f64 0, .agg #[.slice (some ⟨g, 0, none⟩) 2 2, .int .i64 0, .int .i64 2, .int .i64 1, .int .i64 2]] W fun e w' => e = .returned (.int .i64 0) ∧ Own w' g exEr ∧ Chg [g] W w' from by
    refine (gemul_own 4607182418800017408 0 gx 4 4 exEd 0 2 gy 2 2 exE2 0 2 g 2 2 exE0 0 2 2 2 1 W hX rfl (by omega) exEd_wds (by omega) (by omega) (by omega) z0 z2 hY rfl (by omega) exE2_wds (by omega) (by omega) (by omega) z0 z2 hO rfl (by omega) exE0_wds (by omega) (by omega) (by omega) z0 z2 (by omega) (by omega) (by omega) (fun e => (h1 e).elim) (fun e => (h2 e).elim) (fun e => (h1 e).elim) (fun e => (h2 e).elim)).mono ?_
    rintro e w' ⟨rfl, l', k1, k2, k3⟩
    rw [ex_gemul k2] at k1
    exact ⟨rfl, k1, k3⟩)
  have HAl := Lib.hid (fun (A B : Option Addr) (W : World) (h : Row W A (f64s exEr)) (h' : Row W B (f64s exEr)) => show Calls Try.prog 11 #[.slice A 2 2, .slice B 2 2] W fun e w' => e = .returned (.bool true) ∧ Below W.heap.size W w' from
    rall_any A B 2 2 exEr exEr W exEr_wds exEr_wds h h' (by decide) (Alike.refl _))
  have HB0 := Lib.hid ((Below.refl w.heap.size w))
  clear z0 z1 z2
  go_enter Try.func6, Try.ntmps6
  go_wp2_with fail
  refine (HD0.out _).mono ?_
  rintro e w1 ⟨g, rfl, hO, hg, hb⟩
  have HB1 := Lib.hid (below_al (below_nx HB0.out hb) (o := (.cells #[.slice (some ⟨g, 0, none⟩) 2 2, .int .i64 0, .int .i64 2, .int .i64 1, .int .i64 2] 25)))
  have HM0 := Lib.hid (Blk.new w1 25 #[.slice (some ⟨g, 0, none⟩) 2 2, .int .i64 0, .int .i64 2, .int .i64 1, .int .i64 2])
  have HO1 := Lib.hid (hO.nxt (below_one (o := (.cells #[.slice (some ⟨g, 0, none⟩) 2 2, .int .i64 0, .int .i64 2, .int .i64 1, .int .i64 2] 25))))
  have hgl : g < w1.heap.size := hO.lt
  clear hb hO
  go_wp2_with fail
  generalize hwr : w1.alloc (.cells #[.slice (some ⟨g, 0, none⟩) 2 2, .int .i64 0, .int .i64 2, .int .i64 1, .int .i64 2] 25) = wr at *
  generalize hz0 : w1.heap.size = z0 at *
  have HM1 := HM0
  have Hgz := Lib.hid (show g < z0 ∧ z0 < wr.heap.size ∧ w.heap.size ≤ g from ⟨hgl, HM0.out.lt, hg⟩)
  have HMu := Lib.hid (fun (gx gy : Nat) W (hb : Below wr.heap.size wr W) (hX : Own W gx exEd) (hY : Own W gy exE2) (h1 : wr.heap.size ≤ gx) (h2 : wr.heap.size ≤ gy) => show Calls Try.prog 9 #[.float .f64 4607182418800017408, .agg #[.slice (some ⟨gx, 0, none⟩) 4 4, .int .i64 0, .int .i64 2, .int .i64 2, .int .i64 2], .agg #[.slice (some ⟨gy, 0, none⟩) 2 2, .int .i64 0, .int .i64 2, .int .i64 1, .int .i64 2], .float .f64 0, .agg #[.slice (some ⟨g, 0, none⟩) 2 2, .int .i64 0, .int .i64 2, .int .i64 1, .int .i64 2]] W fun e w' => e = .returned (.int .i64 0) ∧ (Own w' g exEr ∧ Chg [g] wr w') from (HMu0.out g gx gy W (HO1.out.nxt hb) hX hY (by have := Hgz.out; omega) (by have := Hgz.out; omega)).mono fun e w' ⟨e1, e2, e3⟩ => ⟨e1, e2, (Chg.of_below hb).trans e3⟩)
  clear hwr hz0 hgl hg HMu0 HM0
  refine wp_region_inv [4, 5, 6, 7, 8, 9, 2] (fun d s W => (d 0 = true → d 5 = false → NwL W (s 4) exE4 4) ∧ (d 1 = true → d 5 = false → NwM W (s 5) wr.heap.size exEd 4 2 2 2) ∧ (d 2 = true → d 5 = false → NwL W (s 6) exE2 2) ∧ (d 3 = true → d 5 = false → NwM W (s 7) wr.heap.size exE2 2 2 1 2) ∧ (d 4 = true → s 8 = .agg #[.slice (some ⟨g, 0, none⟩) 2 2, .int .i64 0, .int .i64 2, .int .i64 1, .int .i64 2]) ∧ (d 5 = true → s 9 = .int .i64 0) ∧ (d 6 = true → s 2 = .int .i64 0) ∧ (d 1 = true → d 0 = true) ∧ (d 3 = true → d 2 = true) ∧ (d 5 = true → d 0 = true ∧ d 1 = true ∧ d 2 = true ∧ d 3 = true ∧ d 4 = true) ∧ ((d 5 = false → Below wr.heap.size wr W) ∧ (d 5 = true → Own W g exEr ∧ Chg [g] wr W)))
    rfl (by kernel_rfl) ?_ ?_ ?_
  · exact ⟨by simp, by simp, by simp, by simp, by simp, by simp, by simp, by simp, by simp, by simp, ⟨fun _ => (Below.refl _ _).drew, fun h => by simp at h⟩⟩
  · refine ⟨?_, ?_, ?_, ?_, ?_, ?_, ?_, trivial⟩
    all_goals
      intro d s W hJ hfr hd hdep
      simp only [List.mem_cons, forall_eq_or_imp, List.not_mem_nil, false_implies, implies_true, and_true, Region.binds] at hdep
      have f1 := hfr 1 (by decide)
      simp at f1 hdep
      obtain ⟨h0, h1, h2, h3, h4, h5, h6, x0, x1, x2, hT⟩ := hJ
    · have hl : d 5 = false := by
        cases h : d 5
        · rfl
        · have := x2 h; simp [hd] at this
      replace hT := hT.1 hl
      unfold OpSteps
      simp [go_sem, evS]
      exact ⟨fun _ => fun _ => ⟨W.heap.size, by simp [sput], own_blk (Blk.new W 22 (f64s exE4).toArray)⟩, fun h e => by simpa [sput] using (h1 (by simpa [did] using h) hl).below below_one, fun h e => by simpa [sput] using (h2 (by simpa [did] using h) hl).below below_one, fun h e => by simpa [sput] using (h3 (by simpa [did] using h) hl).below below_one, fun h => by simpa [sput] using h4 (by simpa [did] using h), fun h => by simpa [sput] using h5 (by simpa [did] using h), fun h => by simpa [sput] using h6 (by simpa [did] using h), fun h => by have := x0 (by simpa [did] using h); simp [did, this], fun h => by have := x1 (by simpa [did] using h); simp [did, this], fun h => by have := x2 (by simpa [did] using h); simp [did, this], ⟨fun _ => below_al hT, fun h => by simp [did, hl] at h⟩⟩
    · have hl : d 5 = false := by
        cases h : d 5
        · rfl
        · have := x2 h; simp [hd] at this
      replace hT := hT.1 hl
      have g0 := h0 (by simp [hdep])
      unfold OpSteps
      obtain ⟨q9, gv9, gO9⟩ := g0 hl
      simp [go_sem, evS, gv9]
      refine (HD1.out q9 W gO9).mono ?_
      rintro e W' ⟨g9, rfl, hO9, hg9, hb⟩
      refine ⟨_, rfl, ?_⟩
      exact ⟨fun h e => by simpa [sput] using (h0 (by simpa [did] using h) hl).below hb, fun _ => fun _ => ⟨g9, by simp [sput], hO9, Nat.le_trans hT.size hg9⟩, fun h e => by simpa [sput] using (h2 (by simpa [did] using h) hl).below hb, fun h e => by simpa [sput] using (h3 (by simpa [did] using h) hl).below hb, fun h => by simpa [sput] using h4 (by simpa [did] using h), fun h => by simpa [sput] using h5 (by simpa [did] using h), fun h => by simpa [sput] using h6 (by simpa [did] using h), fun _ => by simp [did, hdep], fun h => by have := x1 (by simpa [did] using h); simp [did, this], fun h => by have := x2 (by simpa [did] using h); simp [did, this], ⟨fun _ => below_nx hT hb, fun h => by simp [did, hl] at h⟩⟩
    · have hl : d 5 = false := by
        cases h : d 5
        · rfl
        · have := x2 h; simp [hd] at this
      replace hT := hT.1 hl
      unfold OpSteps
      simp [go_sem, evS]
      exact ⟨fun h e => by simpa [sput] using (h0 (by simpa [did] using h) hl).below below_one, fun h e => by simpa [sput] using (h1 (by simpa [did] using h) hl).below below_one, fun _ => fun _ => ⟨W.heap.size, by simp [sput], own_blk (Blk.new W 22 (f64s exE2).toArray)⟩, fun h e => by simpa [sput] using (h3 (by simpa [did] using h) hl).below below_one, fun h => by simpa [sput] using h4 (by simpa [did] using h), fun h => by simpa [sput] using h5 (by simpa [did] using h), fun h => by simpa [sput] using h6 (by simpa [did] using h), fun h => by have := x0 (by simpa [did] using h); simp [did, this], fun h => by have := x1 (by simpa [did] using h); simp [did, this], fun h => by have := x2 (by simpa [did] using h); simp [did, this], ⟨fun _ => below_al hT, fun h => by simp [did, hl] at h⟩⟩
    · have hl : d 5 = false := by
        cases h : d 5
        · rfl
        · have := x2 h; simp [hd] at this
      replace hT := hT.1 hl
      have g2 := h2 (by simp [hdep])
      unfold OpSteps
      obtain ⟨q9, gv9, gO9⟩ := g2 hl
      simp [go_sem, evS, gv9]
      refine (HD2.out q9 W gO9).mono ?_
      rintro e W' ⟨g9, rfl, hO9, hg9, hb⟩
      refine ⟨_, rfl, ?_⟩
      exact ⟨fun h e => by simpa [sput] using (h0 (by simpa [did] using h) hl).below hb, fun h e => by simpa [sput] using (h1 (by simpa [did] using h) hl).below hb, fun h e => by simpa [sput] using (h2 (by simpa [did] using h) hl).below hb, fun _ => fun _ => ⟨g9, by simp [sput], hO9, Nat.le_trans hT.size hg9⟩, fun h => by simpa [sput] using h4 (by simpa [did] using h), fun h => by simpa [sput] using h5 (by simpa [did] using h), fun h => by simpa [sput] using h6 (by simpa [did] using h), fun h => by have := x0 (by simpa [did] using h); simp [did, this], fun _ => by simp [did, hdep], fun h => by have := x2 (by simpa [did] using h); simp [did, this], ⟨fun _ => below_nx hT hb, fun h => by simp [did, hl] at h⟩⟩
    · have hl : d 5 = false := by
        cases h : d 5
        · rfl
        · have := x2 h; simp [hd] at this
      replace hT := hT.1 hl
      unfold OpSteps
      obtain ⟨p0, p1, p2, p3, p4⟩ := cells5 (HM1.out.below hT HM1.out.lt)
      simp [go_sem, evS, f1, p0, p1, p2, p3, p4]
      exact ⟨fun h e => by simpa [sput] using h0 (by simpa [did] using h) (by simpa [did] using e), fun h e => by simpa [sput] using h1 (by simpa [did] using h) (by simpa [did] using e), fun h e => by simpa [sput] using h2 (by simpa [did] using h) (by simpa [did] using e), fun h e => by simpa [sput] using h3 (by simpa [did] using h) (by simpa [did] using e), fun _ => by simp [sput], fun h => by simpa [sput] using h5 (by simpa [did] using h), fun h => by simpa [sput] using h6 (by simpa [did] using h), fun h => by have := x0 (by simpa [did] using h); simp [did, this], fun h => by have := x1 (by simpa [did] using h); simp [did, this], fun h => by have := x2 (by simpa [did] using h); simp [did, this], ⟨fun _ => hT, fun h => by simp [did, hl] at h⟩⟩
    · have g1 := h1 (by simp [hdep])
      have g3 := h3 (by simp [hdep])
      have g4 := h4 (by simp [hdep])
      unfold OpSteps
      obtain ⟨q9, gv9, gO9, gl9⟩ := g1 hd
      obtain ⟨q8, gv8, gO8, gl8⟩ := g3 hd
      have hT0 := hT.1 hd
      simp [go_sem, evS, g4, gv9, gv8]
      refine (HMu.out q9 q8 W hT0 gO9 gO8 gl9 gl8).mono ?_
      rintro e W' ⟨rfl, hD9⟩
      refine ⟨_, rfl, ?_⟩
      exact ⟨fun h e => by simp [did] at e, fun h e => by simp [did] at e, fun h e => by simp [did] at e, fun h e => by simp [did] at e, fun h => by simpa [sput] using h4 (by simpa [did] using h), fun _ => by simp [sput], fun h => by simpa [sput] using h6 (by simpa [did] using h), fun h => by have := x0 (by simpa [did] using h); simp [did, this], fun h => by have := x1 (by simpa [did] using h); simp [did, this], fun _ => by have y1 := x0 (by simp [hdep]); have y3 := x1 (by simp [hdep]); simp [did, hdep, y1, y3], ⟨fun h => by simp [did] at h, fun _ => hD9⟩⟩
    · have g5 := h5 (by simp [hdep])
      unfold OpSteps
      simp [go_sem, evS, g5]
      exact ⟨fun h e => by simpa [sput] using h0 (by simpa [did] using h) (by simpa [did] using e), fun h e => by simpa [sput] using h1 (by simpa [did] using h) (by simpa [did] using e), fun h e => by simpa [sput] using h2 (by simpa [did] using h) (by simpa [did] using e), fun h e => by simpa [sput] using h3 (by simpa [did] using h) (by simpa [did] using e), fun h => by simpa [sput] using h4 (by simpa [did] using h), fun h => by simpa [sput] using h5 (by simpa [did] using h), fun _ => by simp [sput], fun h => by have := x0 (by simpa [did] using h); simp [did, this], fun h => by have := x1 (by simpa [did] using h); simp [did, this], fun h => by have := x2 (by simpa [did] using h); simp [did, this], by simpa [did] using hT⟩
  intro d s W hJ hd
  obtain ⟨h0, h1, h2, h3, h4, h5, h6, x0, x1, x2, hT⟩ := hJ
  obtain ⟨ho9, hc9⟩ := hT.2 (hd 5 (by decide))
  have HO9 := Lib.hid ho9
  have HC9 := Lib.hid hc9
  have hs2 := h6 (hd 6 (by decide))
  clear h0 h1 h2 h3 h4 h5 h6 x0 x1 x2 hd ho9 hc9
  simp [setAll, hs2]
  clear hs2
  clear hT
  generalize s 4 = s4
  generalize s 5 = s5
  generalize s 6 = s6
  generalize s 7 = s7
  generalize s 8 = s8
  generalize s 9 = s9
  generalize W = w9 at *
  have HM3 := Lib.hid (HC9.out.blk (by have := Hgz.out; simp; omega) HM1.out)
  have HB3 := Lib.hid (HC9.out.below HB1.out HB1.out.size (by intro x hx; simp at hx; subst hx; exact Hgz.out.2.2))
  obtain ⟨m0, m1, m2, m3, m4⟩ := cells5 HM3.out
  go_wp2_with fail
  clear m0 m1 m2 m3 m4
  have HR1 := Lib.hid (HO9.out.nxt (below_one (o := (.cells (f64s exEr).toArray 22)))).row
  have HR2 := Lib.hid (own_blk (Blk.new w9 22 (f64s exEr).toArray)).row
  have HB4 := Lib.hid (below_al HB3.out (o := (.cells (f64s exEr).toArray 22)))
  refine (HAl.out _ _ _ HR1.out HR2.out).mono ?_
  rintro e w4 ⟨rfl, hb⟩
  have HB5 := Lib.hid (below_nx HB4.out hb)
  clear hb
  go_wp2_with fail
  go_ret
  exact ⟨rfl, HB5.out⟩
end Go.Proofs.Ytbbgldelebgnfaa
