/-
Gemm: by both the same numbers; the law's example. Conditions: as each says.
-/
import Derived.Test.YtbeefnekblepfaaZGeC
import Derived.Test.YtbeefnekblepfaaZGeD
import Derived.Test.YtbeefnekblepfaaZGvY
import Derived.Test.YtbeefnekblepfaaUaao
import Derived.Test.YtbeefnekblepfaaUaae
set_option linter.unusedVariables false
set_option linter.unusedSimpArgs false
set_option linter.unnecessarySimpa false
namespace Go.Proofs.Ytbeefnekblepfaa
open Go.RowKit
attribute [local go_sem ↓] Go.wp_at_zero Go.wp_at_succ

theorem alike_imge {l l' l2 : List Nat} {o R C L : Nat} {P : Nat → Nat → Nat → Prop} {T : Nat → Nat → Nat} (h : Imr l o R C L P l') (h2 : Img l o R C L T l2) (hs : ∀ a, a < R → ∀ b, b < C → ∀ r, P a b r → sameB r (T a b) = true) : Alike l' l2 := by
  refine ⟨h.1.trans h2.1.symm, fun x hx hx2 => ?_⟩
  rw [← getD_of_lt hx, ← getD_of_lt hx2]
  by_cases e : ∃ a, a < R ∧ ∃ b, b < C ∧ x = o + a + b * L
  · obtain ⟨a, ha, b, hb, rfl⟩ := e
    rw [h2.2.1 a ha b hb]
    exact hs a ha b hb _ (h.2.1 a ha b hb)
  · have e2 : ∀ a, a < R → ∀ b, b < C → x ≠ o + a + b * L := fun a ha b hb e3 => e ⟨a, ha, b, hb, e3⟩
    rw [h.2.2 x e2, h2.2.2 x e2]
    exact sameB_refl _
theorem wds_of_getDe {l : List Nat} (h : ∀ k, k < l.length → l.getD k 0 < 18446744073709551616) : Wds l := by
  intro b hb
  obtain ⟨k, hk, rfl⟩ := List.mem_iff_getElem.1 hb
  rw [← getD_of_lt hk]
  exact h k hk
theorem wds_imre {l l' : List Nat} {o R C L : Nat} {P : Nat → Nat → Nat → Prop} (hl : Wds l) (h : Imr l o R C L P l') (hp : ∀ a, a < R → ∀ b, b < C → ∀ r, P a b r → r < 18446744073709551616) : Wds l' := by
  refine wds_of_getDe fun x hx => ?_
  by_cases e : ∃ a, a < R ∧ ∃ b, b < C ∧ x = o + a + b * L
  · obtain ⟨a, ha, b, hb, rfl⟩ := e
    exact hp a ha b hb _ (h.2.1 a ha b hb)
  · rw [h.2.2 x (fun a ha b hb e3 => e ⟨a, ha, b, hb, e3⟩)]
    exact getD_wds hl _
theorem wds_img2e {l l' : List Nat} {o R C L : Nat} {T : Nat → Nat → Nat} (hl : Wds l) (h : Img l o R C L T l') (hp : ∀ a, a < R → ∀ b, b < C → T a b < 18446744073709551616) : Wds l' := by
  refine wds_of_getDe fun x hx => ?_
  by_cases e : ∃ a, a < R ∧ ∃ b, b < C ∧ x = o + a + b * L
  · obtain ⟨a, ha, b, hb, rfl⟩ := e
    rw [h.2.1 a ha b hb]
    exact hp a ha b hb
  · rw [h.2.2 x (fun a ha b hb e3 => e ⟨a, ha, b, hb, e3⟩)]
    exact getD_wds hl _
theorem tab_wdse {l T : List Nat} {o R C L N : Nat} (h : Tab l o R C L N T) (hN : R * C = N) (hl : Wds l) : Wds T := by
  refine wds_of_getDe fun x hx => ?_
  rw [h.1] at hx
  have hC : 0 < C := by
    rcases Nat.eq_zero_or_pos C with e | e
    · subst e; simp at hx
    · exact e
  have hi : x / C < R := Nat.div_lt_of_lt_mul (by rw [Nat.mul_comm]; exact hx)
  have e : x / C * C + x % C = x := by rw [Nat.mul_comm]; exact Nat.div_add_mod x C
  have h1 := tab_get h hN hi (Nat.mod_lt x hC)
  rw [e] at h1
  rw [h1]; exact getD_wds hl _
theorem Is.trans_eq {r z z' : Nat} (h : Is r z) (e : z = z') : Is r z' := e ▸ h
/-- The number that Mul makes. -/
def geF (a b z : Nat) (f g : Nat → Nat) (K : Nat) : Nat := chnF (begF b z) (fun k => fbin .mul (fbin .mul a (g k)) (f k)) K
theorem geF_congr {a b z z' : Nat} {f f' g g' : Nat → Nat} {K : Nat} (hz : z = z') (hf : ∀ k, k < K → f k = f' k) (hg : ∀ k, k < K → g k = g' k) : geF a b z f g K = geF a b z' f' g' K := by
  unfold geF
  rw [hz]
  exact chnF_congr _ K fun k hk => by rw [hf k hk, hg k hk]
theorem GeR.is_ {a b : Nat} {l : List Nat} {o L : Nat} {lx : List Nat} {om Lm : Nat} {ly : List Nat} {oy Ly K i j r : Nat} (ha : a < 18446744073709551616) (hb : b < 18446744073709551616) (hW : Wds l) (hx : Wds lx) (hy : Wds ly) (h : GeR a b l o L lx om Lm ly oy Ly K i j r) :
    Is r (geF a b (l.getD (o + i + j * L) 0) (fun k => lx.getD (om + i + k * Lm) 0) (fun k => ly.getD (oy + k + j * Ly) 0) K) := by
  have := MulQ.is_ ha hb hW hx hy h
  unfold geF
  have e : o + j * L + i * 1 = o + i + j * L := by omega
  rw [e] at this
  refine this.trans_eq (chnF_congr _ K fun k _ => ?_)
  have e1 : oy + j * Ly + k * 1 = oy + k + j * Ly := by omega
  have e2 : om + k * Lm + i = om + i + k * Lm := by omega
  rw [e1, e2]
theorem GeT.is_ {a b : Nat} {TX : List Nat} {K : Nat} {TY TZ : List Nat} {C i j r : Nat} (ha : a < 18446744073709551616) (hb : b < 18446744073709551616) (hx : Wds TX) (hy : Wds TY) (hz : Wds TZ) (h : GeT a b TX K TY TZ C i j r) :
    Is r (geF a b (TZ.getD (i * C + j) 0) (fun k => TX.getD (i * K + k) 0) (fun k => TY.getD (k * C + j) 0) K) := by
  obtain ⟨s, h1, h2⟩ := h
  exact Chn.is_ (h1.is_ hb (Is.refl (getD_wds hz _))) (fun k _ s r hS => by
    obtain ⟨p, k1, k2⟩ := hS
    exact ⟨p, MulR.is_ ha (getD_wds hx _) (getD_wds hy _) k1, k2⟩) h2
/-- What a product's table has. -/
def GeS (a b : Nat) (l : List Nat) (o L : Nat) (lx : List Nat) (om Lm : Nat) (ly : List Nat) (oy Ly R K C N : Nat) (T : List Nat) : Prop :=
  T.length = N ∧ ∀ i, i < R → ∀ j, j < C → Is (T.getD (i * C + j) 0) (geF a b (l.getD (o + i + j * L) 0) (fun k => lx.getD (om + i + k * Lm) 0) (fun k => ly.getD (oy + k + j * Ly) 0) K)
theorem GeS.of_ref {a b : Nat} {l : List Nat} {o L : Nat} {lx : List Nat} {om Lm : Nat} {ly : List Nat} {oy Ly R K C N NX NY : Nat} {TX TY TZ T' : List Nat} (ha : a < 18446744073709551616) (hb : b < 18446744073709551616) (hl : Wds l) (hx : Wds lx) (hy : Wds ly) (hN : R * C = N) (hNX : R * K = NX) (hNY : K * C = NY) (hTX : Tab lx om R K Lm NX TX) (hTY : Tab ly oy K C Ly NY TY) (hTZ : Tab l o R C L N TZ) (hlen : T'.length = N)
    (h : ∀ i, i < R → ∀ j, j < C → GeT a b TX K TY TZ C i j (T'.getD (i * C + j) 0)) : GeS a b l o L lx om Lm ly oy Ly R K C N T' :=
  ⟨hlen, fun i hi j hj => by
    have := (h i hi j hj).is_ ha hb (tab_wdse hTX hNX hx) (tab_wdse hTY hNY hy) (tab_wdse hTZ hN hl)
    refine this.trans_eq (geF_congr (tab_get hTZ hN hi hj) (fun k hk => tab_get hTX hNX hi hk) (fun k hk => tab_get hTY hNY hk hj))⟩
/-! ### The law's example. -/
def exE2 : List Nat := [4617315517961601024, 4618441417868443648]
def exE0 : List Nat := [0, 0]
def exE4 : List Nat := [4607182418800017408, 4611686018427387904, 4613937818241073152, 4616189618054758400]
def exEd : List Nat := [4607182418800017408, 4613937818241073152, 4611686018427387904, 4616189618054758400]
def exEr : List Nat := [4625478292286210048, 4630685579355357184]
theorem exEr_wds : Wds exEr := by intro b hb; simp [exEr] at hb; omega
theorem exEd_wds : Wds exEd := by intro b hb; simp [exEd] at hb; omega
theorem exE0_wds : Wds exE0 := by intro b hb; simp [exE0] at hb; omega
theorem exE2_wds : Wds exE2 := by intro b hb; simp [exE2] at hb; omega
theorem ex_denseE {M : List Nat} (h : Dense exE4 2 2 M) : M = exEd := by
  obtain ⟨h1, h2⟩ := h
  have a0 := h2 0 (by omega)
  have a1 := h2 1 (by omega)
  have a2 := h2 2 (by omega)
  have a3 := h2 3 (by omega)
  simp [spot] at a0 a1 a2 a3
  match M, h1 with
  | [x0, x1, x2, x3], _ => simp [exE4] at a0 a1 a2 a3; simp [exEd, a0, a1, a2, a3]
theorem ex_denseF {M : List Nat} (h : Dense exE2 2 1 M) : M = exE2 := by
  obtain ⟨h1, h2⟩ := h
  have a0 := h2 0 (by omega)
  have a1 := h2 1 (by omega)
  simp [spot] at a0 a1
  match M, h1 with
  | [x0, x1], _ => simp [exE2] at a0 a1; simp [exE2, a0, a1]
theorem ex_denseG {M : List Nat} (h : Dense [] 2 1 M) : M = exE0 := by
  obtain ⟨h1, h2⟩ := h
  have a0 := h2 0 (by omega)
  have a1 := h2 1 (by omega)
  simp [spot] at a0 a1
  match M, h1 with
  | [x0, x1], _ => simp at a0 a1; simp [exE0, a0, a1]
theorem ex_gemul {l' : List Nat} (h : Imr exE0 0 2 1 2 (GeR 4607182418800017408 0 exE0 0 2 exEd 0 2 exE2 0 2 2) l') : l' = exEr := by
  have key : ∀ a v, a < 2 → geF 4607182418800017408 0 (exE0.getD (0 + a + 0 * 2) 0) (fun k => exEd.getD (0 + a + k * 2) 0) (fun k => exE2.getD (0 + k + 0 * 2) 0) 2 = v → Fl.nan v = false → l'.getD (0 + a + 0 * 2) 0 = v := by
    intro a v ha hv hn
    have := (h.2.1 a ha 0 (by omega)).is_ (by omega) (by omega) exE0_wds exEd_wds exE2_wds
    rw [hv] at this
    exact this.eq_of hn
  refine ext_getD (by rw [h.1]; rfl) fun x hx => ?_
  have hx2 : x < 2 := by rw [h.1] at hx; exact hx
  match x, hx2 with
  | 0, _ => exact key 0 _ (by omega) (by decide +kernel) (by decide)
  | 1, _ => exact key 1 _ (by omega) (by decide +kernel) (by decide)
/-- A new list; a matrix in a list of its own. -/
def NwL (W : World) (v : Value) (l : List Nat) (n : Nat) : Prop := ∃ g, v = .slice (some ⟨g, 0, none⟩) n n ∧ Own W g l
def NwM (W : World) (v : Value) (z : Nat) (l : List Nat) (n R C D : Nat) : Prop := ∃ g, v = .agg #[.slice (some ⟨g, 0, none⟩) n n, .int .i64 0, .int .i64 (R : Int), .int .i64 (C : Int), .int .i64 (D : Int)] ∧ Own W g l ∧ z ≤ g
theorem NwL.below {W W' : World} {v : Value} {l : List Nat} {n : Nat} (h : NwL W v l n) (hb : Below W.heap.size W W') : NwL W' v l n := by
  obtain ⟨g, h1, h2⟩ := h; exact ⟨g, h1, h2.nxt hb⟩
theorem NwM.below {W W' : World} {v : Value} {z : Nat} {l : List Nat} {n R C D : Nat} (h : NwM W v z l n R C D) (hb : Below W.heap.size W W') : NwM W' v z l n R C D := by
  obtain ⟨g, h1, h2, h3⟩ := h; exact ⟨g, h1, h2.nxt hb, h3⟩

end Go.Proofs.Ytbeefnekblepfaa
