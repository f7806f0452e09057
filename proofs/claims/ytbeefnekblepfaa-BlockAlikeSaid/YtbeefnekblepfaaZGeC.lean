/-
Gemm: Mul over lists of the call's own. Conditions: as each says.
-/
import Derived.Test.YtbeefnekblepfaaZGeB
import Derived.Test.YtbeefnekblepfaaUaap
import Derived.Test.YtbeefnekblepfaaUaah
set_option linter.unusedVariables false
set_option linter.unusedSimpArgs false
set_option linter.unnecessarySimpa false
namespace Go.Proofs.Ytbeefnekblepfaa
open Go.RowKit
attribute [local go_sem ↓] Go.wp_at_zero Go.wp_at_succ

theorem cast_off {o K i : Nat} (h : K ≠ 0) : (o : Int) + ((K : Int) - 1) * (i : Int) = ((o + (K - 1) * i : Nat) : Int) := by
  have e : (K : Int) - 1 = ((K - 1 : Nat) : Int) := by omega
  rw [e]
  simp
theorem last_mat {o R C L : Nat} (hR : R ≠ 0) (hC : C ≠ 0) : lastI (o : Int) (R : Int) (C : Int) (L : Int) = ((o + (C - 1) * L + (R - 1) : Nat) : Int) := by
  unfold lastI
  have e : (R : Int) - 1 = ((R - 1 : Nat) : Int) := by omega
  have := cast_off (o := o) (K := C) (i := L) hC
  rw [e]
  generalize ((C : Int) - 1) * (L : Int) = p at *
  generalize (C - 1) * L = q at *
  omega
theorem Chn.congr {S S' : Nat → Nat → Nat → Prop} {y : Nat} : ∀ {k r : Nat}, (∀ j, j < k → ∀ s r, S j s r → S' j s r) → Chn S y k r → Chn S' y k r
  | 0, _, _, h => h
  | k + 1, _, hS, ⟨s, h1, h2⟩ => ⟨s, Chn.congr (fun j hj => hS j (by omega)) h1, hS k (by omega) _ _ h2⟩
theorem MulQ.congr {a b : Nat} {l l' : List Nat} {o i : Nat} {lm lm' : List Nat} {om C L : Nat} {lx lx' : List Nat} {ox ox' ix q r : Nat} (h1 : l.getD (o + q * i) 0 = l'.getD (o + q * i) 0) (h2 : ∀ k, k < C → lm.getD (om + k * L + q) 0 = lm'.getD (om + k * L + q) 0) (h3 : ∀ k, k < C → lx.getD (ox + k * ix) 0 = lx'.getD (ox' + k * ix) 0) (h : MulQ a b l o i lm om C L lx ox ix q r) : MulQ a b l' o i lm' om C L lx' ox' ix q r := by
  obtain ⟨s, h4, h5⟩ := h
  rw [h1] at h4
  refine ⟨s, h4, h5.congr fun j hj s r h => ?_⟩
  unfold ColS at h ⊢
  rw [h2 j hj, h3 j hj] at h
  exact h
theorem MulQ.lt {a b : Nat} {l : List Nat} {o i : Nat} {lm : List Nat} {om C L : Nat} {lx : List Nat} {ox ix q r : Nat} (h : MulQ a b l o i lm om C L lx ox ix q r) : r < 18446744073709551616 := by
  obtain ⟨s, h4, h5⟩ := h
  cases C with
  | zero =>
    have h5 : r = s := h5
    rw [h5]; exact h4.lt
  | succ k =>
    obtain ⟨s2, _, p, _, h6⟩ := h5
    exact h6.1
/-- What Mul makes of a number. -/
def GeR (a b : Nat) (l : List Nat) (o L : Nat) (lx : List Nat) (om Lm : Nat) (ly : List Nat) (oy Ly K : Nat) (i j r : Nat) : Prop := MulQ a b l (o + j * L) 1 lx om K Lm ly (oy + j * Ly) 1 i r
theorem GeR.lt {a b : Nat} {l : List Nat} {o L : Nat} {lx : List Nat} {om Lm : Nat} {ly : List Nat} {oy Ly K : Nat} {i j r : Nat} (h : GeR a b l o L lx om Lm ly oy Ly K i j r) : r < 18446744073709551616 := MulQ.lt h
theorem wds_pcl {l l' : List Nat} {o R C L j i : Nat} {P : Nat → Nat → Nat → Prop} (hl : Wds l) (h : Pcl l o R C L P j i l') (hp : ∀ a b r, P a b r → r < 18446744073709551616) : Wds l' := by
  intro v hv
  obtain ⟨x, hx, rfl⟩ := List.mem_iff_getElem.1 hv
  rw [← getD_of_lt hx]
  by_cases e : ∃ a, a < R ∧ ∃ b, b < C ∧ x = o + a + b * L
  · obtain ⟨a, ha, b, hb, rfl⟩ := e
    have := h.2.1 a ha b hb
    by_cases e1 : b < j ∨ (b = j ∧ a < i)
    · rw [if_pos e1] at this; exact hp _ _ _ this
    · rw [if_neg e1] at this; rw [this]; exact getD_wds hl _
  · rw [h.2.2 x (fun a ha b hb e3 => e ⟨a, ha, b, hb, e3⟩)]
    exact getD_wds hl _
/-- Spans that lie apart. -/
def Away (o R C L o' R' C' L' : Nat) : Prop := (R' = 0 ∨ C' = 0) ∨ (R = 0 ∨ C = 0) ∨ o + (C - 1) * L + (R - 1) < o' ∨ o' + (C' - 1) * L' + (R' - 1) < o
theorem col_meet {n n' o R L o' R' C' L' j C : Nat} (hR0 : R ≠ 0) (hj : j < C) (h : Away o R C L o' R' C' L') :
    (bothB n ((o + j * L : Nat) : Int) 1 (R : Int) 1 n' (o' : Int) (R' : Int) (C' : Int) (L' : Int) && (decide (((o + j * L : Nat) : Int) ≤ lastI (o' : Int) (R' : Int) (C' : Int) (L' : Int)) && decide ((o' : Int) ≤ lastI ((o + j * L : Nat) : Int) 1 (R : Int) 1))) = false := by
  have hb : j * L ≤ (C - 1) * L := Nat.mul_le_mul_right L (by omega)
  by_cases hE : R' = 0 ∨ C' = 0
  · have : (!((R' : Int) == 0 || (C' : Int) == 0)) = false := by
      rcases hE with h | h <;> simp [h]
    unfold bothB
    rw [this]
    simp
  · have hR : R' ≠ 0 := fun h => hE (.inl h)
    have hC : C' ≠ 0 := fun h => hE (.inr h)
    have e1 := last_mat (o := o') (R := R') (C := C') (L := L') hR hC
    have e2 : lastI ((o + j * L : Nat) : Int) 1 (R : Int) 1 = ((o + j * L + (R - 1) : Nat) : Int) := by unfold lastI; omega
    rw [e1, e2]
    have h' := (h.resolve_left hE).resolve_left (by omega)
    generalize (C' - 1) * L' = p at *
    generalize (C - 1) * L = q at *
    generalize j * L = t at *
    have : (decide (((o + t : Nat) : Int) ≤ ((o' + p + (R' - 1) : Nat) : Int)) && decide ((o' : Int) ≤ ((o + t + (R - 1) : Nat) : Int))) = false := by
      rcases h' with h | h
      · have : decide ((o' : Int) ≤ ((o + t + (R - 1) : Nat) : Int)) = false := decide_eq_false (by omega)
        rw [this, Bool.and_false]
      · have : decide (((o + t : Nat) : Int) ≤ ((o' + p + (R' - 1) : Nat) : Int)) = false := decide_eq_false (by omega)
        rw [this, Bool.false_and]
    rw [this, Bool.and_false]
theorem all_meet {n n' o R C L o' R' C' L' : Nat} (h : Away o R C L o' R' C' L') :
    (bothB n (o : Int) (R : Int) (C : Int) (L : Int) n' (o' : Int) (R' : Int) (C' : Int) (L' : Int) && (decide ((o : Int) ≤ lastI (o' : Int) (R' : Int) (C' : Int) (L' : Int)) && decide ((o' : Int) ≤ lastI (o : Int) (R : Int) (C : Int) (L : Int)))) = false := by
  by_cases hE : R' = 0 ∨ C' = 0
  · have : (!((R' : Int) == 0 || (C' : Int) == 0)) = false := by
      rcases hE with h | h <;> simp [h]
    unfold bothB
    rw [this]
    simp
  by_cases hE2 : R = 0 ∨ C = 0
  · have : (!((R : Int) == 0 || (C : Int) == 0)) = false := by
      rcases hE2 with h | h <;> simp [h]
    unfold bothB
    rw [this]
    simp
  · have e1 := last_mat (o := o') (R := R') (C := C') (L := L') (fun h => hE (.inl h)) (fun h => hE (.inr h))
    have e2 := last_mat (o := o) (R := R) (C := C) (L := L) (fun h => hE2 (.inl h)) (fun h => hE2 (.inr h))
    rw [e1, e2]
    have h' := (h.resolve_left hE).resolve_left hE2
    generalize (C' - 1) * L' = p at *
    generalize (C - 1) * L = q at *
    have : (decide ((o : Int) ≤ ((o' + p + (R' - 1) : Nat) : Int)) && decide ((o' : Int) ≤ ((o + q + (R - 1) : Nat) : Int))) = false := by
      rcases h' with h | h
      · have : decide ((o' : Int) ≤ ((o + q + (R - 1) : Nat) : Int)) = false := decide_eq_false (by omega)
        rw [this, Bool.and_false]
      · have : decide ((o : Int) ≤ ((o' + p + (R' - 1) : Nat) : Int)) = false := decide_eq_false (by omega)
        rw [this, Bool.false_and]
    rw [this, Bool.and_false]
theorem away_col {o R C L oy K Ly j ox : Nat} (hj : j < C) (h : Away o R C L oy K C Ly) (hox : K = 0 ∨ ox = oy + j * Ly) : Away o R C L ox 1 K 1 := by
  by_cases hK : K = 0
  · exact .inl (.inr hK)
  have hox := hox.resolve_left hK
  have hb : j * Ly ≤ (C - 1) * Ly := Nat.mul_le_mul_right Ly (by omega)
  rcases h with h | h | h | h
  · omega
  · rcases h with h | h
    · exact .inr (.inl (.inl h))
    · omega
  · right; right; left; omega
  · right; right; right; omega
/-- A matrix in lists of the call's own: they don't meet. -/
theorem own_away (g gx c cx : Nat) (l lx : List Nat) (n nx : Nat) (o r k L ox rx kx Lx : Int) (W : World) (hO : Own W g l) (hX : Own W gx lx) (hl : l.length = n) (hlx : lx.length = nx) (hn : n < 1048576) (hnx : nx < 1048576) (ho : I64 o) (hr : I64 r) (hk : I64 k) (hL : I64 L) (hox : I64 ox) (hrx : I64 rx) (hkx : I64 kx) (hLx : I64 Lx)
    (h : gx = g → (bothB n o r k L nx ox rx kx Lx && (decide (o ≤ lastI ox rx kx Lx) && decide (ox ≤ lastI o r k L))) = false) :
    Calls Try.prog 32 #[mat (some ⟨g, 0, none⟩) n c o r k L, mat (some ⟨gx, 0, none⟩) nx cx ox rx kx Lx] W fun e w' => e = .returned (.bool false) ∧ Below W.heap.size W w' := by
  have := meet_own g gx c cx l lx o r k L ox rx kx Lx W hO hX (by omega) ho hr hk hL (by omega) hox hrx hkx hLx
  rw [hl, hlx] at this
  have e : (bothB n o r k L nx ox rx kx Lx && decide (g = gx) && (decide (o ≤ lastI ox rx kx Lx) && decide (ox ≤ lastI o r k L))) = false := by
    by_cases e : gx = g
    · have := h e
      rw [show decide (g = gx) = true from decide_eq_true e.symm, Bool.and_true]
      exact this
    · rw [show decide (g = gx) = false from decide_eq_false (fun h => e h.symm), Bool.and_false, Bool.false_and]
  rw [e] at this
  exact this
theorem ge_col {n oy K C Ly j : Nat} (hj : j < C) (hyr : K = 0 ∨ C = 0 ∨ oy + (C - 1) * Ly + (K - 1) < n) (hoy : I64 oy) (hn : n < 1048576) : ∃ ox : Nat, ncolOff (oy : Int) (K : Int) (Ly : Int) (j : Int) = (ox : Int) ∧ (K = 0 ∨ ox = oy + j * Ly) ∧ I64 ox ∧ (K = 0 ∨ ox + (K - 1) * 1 < n) := by
  by_cases hK : K = 0
  · exact ⟨oy, by unfold ncolOff; rw [if_pos (by omega)], .inl hK, hoy, .inl hK⟩
  · have hb : j * Ly ≤ (C - 1) * Ly := Nat.mul_le_mul_right Ly (by omega)
    have hm : oy + (C - 1) * Ly + (K - 1) < n := (hyr.resolve_left hK).resolve_left (by omega)
    exact ⟨oy + j * Ly, ge_off hK, .inr rfl, by unfold I64; omega, .inr (by omega)⟩
/-- A list of the call's own that another call has written into, elsewhere. -/
theorem keep_own {g gx n nx : Nat} {l lj lx : List Nat} {o R C L j ox Rx Cx Lx : Nat} {P : Nat → Nat → Nat → Prop} {w W : World} (hOx : Own w gx lx) (hlx : lx.length = nx) (hWx : Wds lx) (hWl : Wds l) (hs : gx = g → lx = l ∧ nx = n) (hl : l.length = n) (hp : Pcl l o R C L P j 0 lj) (hP : ∀ a b r, P a b r → r < 18446744073709551616) (hO : Own W g lj) (hc : Chg [g] w W) (ha : gx = g → Away o R C L ox Rx Cx Lx) :
    ∃ lx' : List Nat, Own W gx lx' ∧ lx'.length = nx ∧ Wds lx' ∧ ∀ a, a < Rx → ∀ b, b < Cx → lx'.getD (ox + b * Lx + a) 0 = lx.getD (ox + b * Lx + a) 0 := by
  by_cases e : gx = g
  · obtain ⟨e1, e2⟩ := hs e
    refine ⟨lj, by rw [e]; exact hO, by rw [hp.1, hl, e2], wds_pcl hWl hp hP, fun a ha2 b hb => ?_⟩
    rw [e1]
    refine hp.2.2 _ fun i hi q hq e3 => ?_
    have h1 : b * Lx ≤ (Cx - 1) * Lx := Nat.mul_le_mul_right Lx (by omega)
    have h2 : q * L ≤ (C - 1) * L := Nat.mul_le_mul_right L (by omega)
    rcases ha e with h | h | h | h <;> omega
  · exact ⟨lx, hc.own (by simpa using e) hOx, hlx, hWx, fun _ _ _ _ => rfl⟩

set_option maxHeartbeats 1000000 in
theorem gemul_own (a b : Nat) (gx cx nx : Nat) (lx : List Nat) (om Lm : Nat) (gy cy ny : Nat) (ly : List Nat) (oy Ly : Nat) (g c n : Nat) (l : List Nat) (o L R K C : Nat) (w : World)
    (hOx : Own w gx lx) (hlx : lx.length = nx) (hnx : nx < 1048576) (hWx : Wds lx) (hL1x : 1 ≤ Lm) (hRLx : R ≤ Lm) (hxr : R = 0 ∨ K = 0 ∨ om + (K - 1) * Lm + (R - 1) < nx) (hom : I64 om) (hLm : I64 Lm)
    (hOy : Own w gy ly) (hly : ly.length = ny) (hny : ny < 1048576) (hWy : Wds ly) (hL1y : 1 ≤ Ly) (hRLy : K ≤ Ly) (hyr : K = 0 ∨ C = 0 ∨ oy + (C - 1) * Ly + (K - 1) < ny) (hoy : I64 oy) (hLy : I64 Ly)
    (hO : Own w g l) (hl : l.length = n) (hn : n < 1048576) (hWl : Wds l) (hL1 : 1 ≤ L) (hRL : R ≤ L) (hmr : R = 0 ∨ C = 0 ∨ o + (C - 1) * L + (R - 1) < n) (hoI : I64 o) (hLI : I64 L)
    (hRb : R < 1048576) (hKb : K < 1048576) (hCb : C < 1048576) (hsx : gx = g → lx = l ∧ nx = n) (hsy : gy = g → ly = l ∧ ny = n) (hax : gx = g → Away o R C L om R K Lm) (hay : gy = g → Away o R C L oy K C Ly) :
    Calls Try.prog 33 #[.float .f64 a, mat (some ⟨gx, 0, none⟩) nx cx om R K Lm, mat (some ⟨gy, 0, none⟩) ny cy oy K C Ly, .float .f64 b, mat (some ⟨g, 0, none⟩) n c o R C L] w fun e w' => e = .returned (.int .i64 0) ∧ ∃ l', Own w' g l' ∧ Imr l o R C L (GeR a b l o L lx om Lm ly oy Ly K) l' ∧ Chg [g] w w' := by
  have iR : I64 (R : Int) := by unfold I64; omega
  have iK : I64 (K : Int) := by unfold I64; omega
  have iC : I64 (C : Int) := by unfold I64; omega
  have i1 : I64 1 := by unfold I64; omega
  have hF := fun W (hb : Below w.heap.size w W) => gefits_ok (some ⟨gx, 0, none⟩) nx cx om Lm (some ⟨gy, 0, none⟩) ny cy oy Ly (some ⟨g, 0, none⟩) n c o L R K C W iR iK iC (by omega) hom hLm (by omega) hoy hLy (by omega) hoI hLI (by rw [mat_right hL1x hRLx hxr, mat_right hL1y hRLy hyr, mat_right hL1 hRL hmr]; rfl)
    (fun W' hb' => own_away g gx c cx l lx n nx o R C L om R K Lm W' ((hO.nxt hb).nxt hb') ((hOx.nxt hb).nxt hb') hl hlx hn hnx hoI iR iC hLI hom iR iK hLm (fun e => all_meet (hax e)))
    (fun W' hb' => own_away g gy c cy l ly n ny o R C L oy K C Ly W' ((hO.nxt hb).nxt hb') ((hOy.nxt hb).nxt hb') hl hly hn hny hoI iR iC hLI hoy iK iC hLy (fun e => all_meet (hay e)))
  rcases Nat.eq_zero_or_pos R with h0 | h0
  · subst h0
    refine (gemul_none a b _ nx cx om 0 K Lm _ ny cy oy K C Ly _ n c o C L w hF).mono ?_
    rintro e w' ⟨e1, hb⟩
    exact ⟨e1, l, hO.nxt hb, ⟨rfl, fun a ha => by omega, fun _ _ => rfl⟩, Chg.of_below hb⟩
  · refine gemul_ok a b _ nx cx om Lm _ ny cy oy Ly g c n l o L R K C _ w hO hl hn hRL hL1 hmr (by omega) hRb hCb hKb hoI hLI (by omega) hoy hLy (mat_right hL1y hRLy hyr) hF fun W j lj hj hp hOj hc => ?_
    obtain ⟨ox, hox, hox2, hoxI, hoxr⟩ := ge_col hj hyr hoy hny
    rw [hox]
    have hPn := ge_jL hmr (by omega) hj
    obtain ⟨lx', x1, x2, x3, x4⟩ := keep_own hOx hlx hWx hWl hsx hl hp (fun _ _ _ h => GeR.lt h) hOj hc hax
    obtain ⟨ly', y1, y2, y3, y4⟩ := keep_own hOy hly hWy hWl hsy hl hp (fun _ _ _ h => GeR.lt h) hOj hc hay
    have hlj : lj.length = n := by rw [hp.1, hl]
    have hjL : j * L ≤ (C - 1) * L := Nat.mul_le_mul_right L (by omega)
    have iP : I64 ((o + j * L : Nat) : Int) := by unfold I64; omega
    have v1 : vecB ny (ox : Int) (K : Int) 1 = true := vec_right (i := 1) (Nat.le_refl 1) hoxr
    have v2 : vecB n ((o + j * L : Nat) : Int) (R : Int) 1 = true := vec_right (i := 1) (Nat.le_refl 1) (.inr hPn)
    refine (gvmul_ok a b g c n lj (o + j * L) R 1 gx cx nx lx' om K Lm gy cy ny ly' ox 1 W hOj hlj hn (Nat.le_refl _) (.inr hPn) x1 x2 hnx hL1x hRLx hxr x3 y1 y2 hny (Nat.le_refl _) hoxr y3 hom hLm hoxI i1 hRb hKb
      (fun e x hx y hy q hq e2 => by
        have h1 : y * Lm ≤ (K - 1) * Lm := Nat.mul_le_mul_right Lm (by omega)
        rcases hax e with h | h | h | h <;> omega)
      (fun e y hy q hq e2 => by
        rcases away_col hj (hay e) hox2 with h | h | h | h <;> omega)
      (fun W' hb => gvfits_ok _ nx cx om R K Lm _ ny cy ox K 1 _ n c _ R 1 W' (by omega) hom iR iK hLm (by omega) hoxI iK i1 (by omega) iP iR i1 (by rw [mat_right hL1x hRLx hxr, v1, v2]; rfl)
        (fun W2 hb2 => own_away g gx c cx lj lx' n nx _ 1 R 1 om R K Lm W2 ((hOj.nxt hb).nxt hb2) ((x1.nxt hb).nxt hb2) hlj x2 hn hnx iP i1 iR i1 hom iR iK hLm (fun e => col_meet (by omega) hj (hax e)))
        (fun W2 hb2 => own_away g gy c cy lj ly' n ny _ 1 R 1 ox 1 K 1 W2 ((hOj.nxt hb).nxt hb2) ((y1.nxt hb).nxt hb2) hlj y2 hn hny iP i1 iR i1 hoxI i1 iK i1 (fun e => col_meet (R' := 1) (L' := 1) (by omega) hj (away_col hj (hay e) hox2))))).mono ?_
    rintro e w' ⟨e1, m, m1, m2, m3, m4⟩
    refine ⟨e1, m, fun q hq => ?_, m3, m4⟩
    refine (m2 q hq).congr ?_ (fun k hk => x4 q hq k hk) (fun k hk => ?_)
    · have h2 := hp.2.1 q hq j hj
      rw [if_neg (by omega)] at h2
      rw [show o + j * L + q * 1 = o + q + j * L by omega]
      exact h2
    · have h3 := y4 k hk j hj
      have e4 : ox = oy + j * Ly := hox2.resolve_left (by omega)
      rw [e4, Nat.mul_one]
      exact h3
end Go.Proofs.Ytbeefnekblepfaa
