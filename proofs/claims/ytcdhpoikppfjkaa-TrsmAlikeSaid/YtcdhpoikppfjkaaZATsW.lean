/-
TrsmAlike's walk. Conditions: as each says.
-/
import Derived.Test.YtcdhpoikppfjkaaZATsM
import Derived.Test.YtcdhpoikppfjkaaZAGeM
import Derived.Test.YtcdhpoikppfjkaaWbaj
import Derived.Test.YtcdhpoikppfjkaaWbah
set_option linter.unusedVariables false
set_option linter.unusedSimpArgs false
set_option linter.unnecessarySimpa false
namespace Go.Proofs.Ytcdhpoikppfjkaa
open Go.RowKit
attribute [local go_sem ↓] Go.wp_at_zero Go.wp_at_succ

/-- A size out of a byte. -/
theorem u8_sizeT {y : Nat} (h : y < 256) : ∃ n : Nat, (1 ≤ n ∧ n ≤ 256) ∧ Hid (1 + ((y : Nat) : Int) = (n : Int) ∧ wrap64 (n : Int) = (n : Int) ∧ IntKind.i64.wrap (n : Int) = (n : Int) ∧ wrap64 (y : Int) = (y : Int) ∧ IntKind.i64.wrap (y : Int) = (y : Int)) :=
  ⟨1 + y, by omega, Lib.hid ⟨by omega, by unfold wrap64; omega, wrapi (by omega) (by omega), by unfold wrap64; omega, wrapi (by omega) (by omega)⟩⟩
/-- A list of which this holds lies in block g. -/
def SoP (P : List Nat → Prop) (W : World) (g : Nat) : Prop := ∃ X, P X ∧ Own W g X
theorem SoP.chg {P : List Nat → Prop} {W W' : World} {g : Nat} {G : List Nat} (h : SoP P W g) (hg : g ∉ G) (hc : Chg G W W') : SoP P W' g := by
  obtain ⟨X, h1, h2⟩ := h
  exact ⟨X, h1, hc.own hg h2⟩

set_option maxRecDepth 100000 in
set_option maxHeartbeats 4000000 in
theorem trsmAlike_any (kd : Int) (a b : Nat) (Am : Option Addr) (nm cm : Nat) (mo mr mk ml : Int) (Ax : Option Addr) (nx cx : Nat) (lx : List Nat) (xo xr xk xl : Int) (E : Int) (P : List Nat → Prop) (w : World) (hya : a < 256) (hyb : b < 256) (hAx : Row w Ax (f64s lx)) (hlx : lx.length = nx) (hnx : nx ≤ 1000) (hG : greatB nm mr mk = false) (hGx : greatB nx xr xk = false) (hPr : ∀ (n : Nat) (h1 : 1 ≤ n ∧ n ≤ 256) W (g cg : Nat) (hb : Below w.heap.size w W) (hg : w.heap.size ≤ g) (hO : Own W g lx), Calls Try.prog 8 #[.int .i64 kd, .int .i64 (n : Int), mat Am nm cm mo mr mk ml, mat (some ⟨g, 0, none⟩) nx cg xo xr xk xl] W fun e w' => e = .returned (.int .i64 E) ∧ SoP P w' g ∧ Chg [g] W w') (hAll : ∀ W (A B : Option Addr) (c d : Nat) (X Y : List Nat) (hX : P X) (hY : P Y) (h1 : Row W A (f64s X)) (h2 : Row W B (f64s Y)), Calls Try.prog 14 #[.slice A nx c, .slice B nx d] W fun e w' => e = .returned (.bool true) ∧ Below W.heap.size W w') :
    Calls Try.prog 4 #[.int .i64 kd, .int .u8 (a : Int), .int .u8 (b : Int), mat Am nm cm mo mr mk ml, mat Ax nx cx xo xr xk xl] w fun e w' => e = .returned (.bool true) ∧ Below w.heap.size w w' := by
  have HGr := Lib.hid (fun W => great_any Am nm cm mo mr mk ml W)
  have HGs := Lib.hid (fun W => great_any Ax nx cx xo xr xk xl W)
  rw [hG] at HGr
  rw [hGx] at HGs
  have HApx := Lib.hid (apart_c Ax nx cx lx xo xr xk xl w hAx hlx (by omega))
  have HAw := Lib.hid (fun W => awake14_any W)
  have HPr := Lib.hid hPr
  have HAll := Lib.hid hAll
  obtain ⟨n0, bn0, Wn0⟩ := u8_sizeT hya
  obtain ⟨n1, bn1, Wn1⟩ := u8_sizeT hyb
  have HbN := Lib.hid (And.intro bn0 bn1)
  have t0' : (E == E) = true := by simp
  clear hAx hlx hnx hG hGx hPr hAll hya hyb bn0 bn1
  unfold mat at *
  go_enter Try.func4, Try.ntmps4
  have Hm0 := Lib.hid ((Blk.new w 24 #[.slice Am nm cm, .int .i64 mo, .int .i64 mr, .int .i64 mk, .int .i64 ml]).alloc (.cells #[.slice Ax nx cx, .int .i64 xo, .int .i64 xr, .int .i64 xk, .int .i64 xl] 24))
  have Hx0 := Lib.hid (Blk.new_ (w.alloc (.cells #[.slice Am nm cm, .int .i64 mo, .int .i64 mr, .int .i64 mk, .int .i64 ml] 24)) 24 #[.slice Ax nx cx, .int .i64 xo, .int .i64 xr, .int .i64 xk, .int .i64 xl] (w.heap.size + 1) (by simp))
  have HB0 := Lib.hid (((Below.refl w.heap.size w).alloc (Nat.le_refl _) (.cells #[.slice Am nm cm, .int .i64 mo, .int .i64 mr, .int .i64 mk, .int .i64 ml] 24)).alloc (by simp) (.cells #[.slice Ax nx cx, .int .i64 xo, .int .i64 xr, .int .i64 xk, .int .i64 xl] 24))
  obtain ⟨m0, m1, m2, m3, m4⟩ := cells5 Hm0.out
  obtain ⟨x0, x1, x2, x3, x4⟩ := cells5 Hx0.out
  go_wp2_with fail
  refine (HAw.out _).mono ?_
  rintro e w1 ⟨rfl, hb⟩
  have Hm1 := Lib.hid (Hm0.out.nxt hb)
  have Hx1 := Lib.hid (Hx0.out.nxt hb)
  have HB1 := Lib.hid (below_nx HB0.out hb)
  clear hb
  clear m0 m1 m2 m3 m4 x0 x1 x2 x3 x4
  obtain ⟨m0, m1, m2, m3, m4⟩ := cells5 Hm1.out
  obtain ⟨x0, x1, x2, x3, x4⟩ := cells5 Hx1.out
  clear Hm0 Hx0 HB0
  go_wp2_with fail
  refine (HGr.out _).mono ?_
  rintro e w2 ⟨rfl, hb⟩
  have Hm2 := Lib.hid (Hm1.out.nxt hb)
  have Hx2 := Lib.hid (Hx1.out.nxt hb)
  have HB2 := Lib.hid (below_nx HB1.out hb)
  clear hb
  clear m0 m1 m2 m3 m4 x0 x1 x2 x3 x4
  obtain ⟨m0, m1, m2, m3, m4⟩ := cells5 Hm2.out
  obtain ⟨x0, x1, x2, x3, x4⟩ := cells5 Hx2.out
  clear Hm1 Hx1 HB1
  go_wp2_with fail
  refine (HGs.out _).mono ?_
  rintro e w3 ⟨rfl, hb⟩
  have Hm3 := Lib.hid (Hm2.out.nxt hb)
  have Hx3 := Lib.hid (Hx2.out.nxt hb)
  have HB3 := Lib.hid (below_nx HB2.out hb)
  clear hb
  clear m0 m1 m2 m3 m4 x0 x1 x2 x3 x4
  obtain ⟨m0, m1, m2, m3, m4⟩ := cells5 Hm3.out
  obtain ⟨x0, x1, x2, x3, x4⟩ := cells5 Hx3.out
  clear Hm2 Hx2 HB2
  go_wp2_with fail
  refine wp_region_inv [24, 25, 26, 27, 11, 12] (fun d s W => (d 0 = true → s 24 = .agg #[.slice Ax nx cx, .int .i64 xo, .int .i64 xr, .int .i64 xk, .int .i64 xl]) ∧ (d 1 = true → OwM W (s 25) w3.heap.size lx nx xo xr xk xl) ∧ (d 2 = true → s 26 = .agg #[.slice Ax nx cx, .int .i64 xo, .int .i64 xr, .int .i64 xk, .int .i64 xl]) ∧ (d 3 = true → OwM W (s 27) w3.heap.size lx nx xo xr xk xl) ∧ (d 4 = true → NbM W (s 11) w3.heap.size) ∧ (d 5 = true → NbM W (s 12) w3.heap.size) ∧ (d 6 = true → PqM W (s 11) (lb (s 25)) w3.heap.size lx nx xo xr xk xl) ∧ (d 7 = true → PqM W (s 12) (lb (s 27)) w3.heap.size lx nx xo xr xk xl) ∧ (d 6 = true → d 4 = true) ∧ (d 7 = true → d 5 = true) ∧ (d 4 = true → d 5 = true → s 11 ≠ s 12) ∧ (d 1 = true → d 3 = true → lb (s 25) ≠ lb (s 27)) ∧ (d 6 = true → d 1 = true) ∧ (d 7 = true → d 3 = true) ∧ Below w3.heap.size w3 W)
    rfl (by kernel_rfl) ?_ ?_ ?_
  · exact ⟨by simp, by simp, by simp, by simp, by simp, by simp, by simp, by simp, by simp, by simp, by simp, by simp, by simp, by simp, (Below.refl _ _).drew⟩
  · refine ⟨?_, ?_, ?_, ?_, ?_, ?_, ?_, ?_, trivial⟩
    all_goals
      intro d s W hJ hfr hd hdep
      simp only [List.mem_cons, forall_eq_or_imp, List.not_mem_nil, false_implies, implies_true, and_true, Region.binds] at hdep
      have f9 := hfr 9 (by decide)
      simp at f9 hdep
      obtain ⟨h0, h1, h2, h3, h4, h5, h6, h7, x0, x1, x2, x3, x4, x5, hT⟩ := hJ
    · as_aux_lemma =>
        unfold OpSteps
        obtain ⟨p0, p1, p2, p3, p4⟩ := cells5 (Hx3.out.below hT Hx3.out.lt)
        simp [go_sem, evS, f9, p0, p1, p2, p3, p4]
        exact ⟨fun _ => by simp [sput], fun h => by simpa [sput] using h1 (by simpa [did] using h), kpw h2, fun h => by simpa [sput] using h3 (by simpa [did] using h), fun h => by simpa [sput] using h4 (by simpa [did] using h), fun h => by simpa [sput] using h5 (by simpa [did] using h), fun h => by simpa [sput] using h6 (by simpa [did] using h), fun h => by simpa [sput] using h7 (by simpa [did] using h), by simpa [sput, did] using x0, by simpa [sput, did] using x1, by simpa [sput, did] using x2, by simpa [sput, did] using x3, by simpa [sput, did] using x4, by simpa [sput, did] using x5, hT⟩
    · as_aux_lemma =>
        have g0 := h0 (by simp [hdep])
        unfold OpSteps
        simp [go_sem, evS, g0]
        refine (HApx.out W (below_nx HB3.out hT)).mono ?_
        rintro e W' ⟨g9, c9, rfl, ho, hg, hb⟩
        refine ⟨_, rfl, ?_⟩
        exact ⟨kpw h0, fun _ => ⟨g9, c9, by simp [sput], ho, Nat.le_trans hT.size hg⟩, kpw h2, fun h => by simpa [sput] using (h3 (by simpa [did] using h)).below hb, fun h => by simpa [sput] using (h4 (by simpa [did] using h)).below hb, fun h => by simpa [sput] using (h5 (by simpa [did] using h)).below hb, fun h => by have := x4 (by simpa [did] using h); simp [hd] at this, fun h => by simpa [sput] using (h7 (by simpa [did] using h)).below hb, by simpa [sput, did] using x0, by simpa [sput, did] using x1, by simpa [sput, did] using x2, fun _ e3 => by have hq := (h3 (by simpa [did] using e3)).lb_lt; simp [sput, lb_mat]; omega, fun _ => by simp [did], by simpa [sput, did] using x5, below_nx hT hb⟩
    · as_aux_lemma =>
        unfold OpSteps
        obtain ⟨p0, p1, p2, p3, p4⟩ := cells5 (Hx3.out.below hT Hx3.out.lt)
        simp [go_sem, evS, f9, p0, p1, p2, p3, p4]
        exact ⟨kpw h0, fun h => by simpa [sput] using h1 (by simpa [did] using h), fun _ => by simp [sput], fun h => by simpa [sput] using h3 (by simpa [did] using h), fun h => by simpa [sput] using h4 (by simpa [did] using h), fun h => by simpa [sput] using h5 (by simpa [did] using h), fun h => by simpa [sput] using h6 (by simpa [did] using h), fun h => by simpa [sput] using h7 (by simpa [did] using h), by simpa [sput, did] using x0, by simpa [sput, did] using x1, by simpa [sput, did] using x2, by simpa [sput, did] using x3, by simpa [sput, did] using x4, by simpa [sput, did] using x5, hT⟩
    · as_aux_lemma =>
        have g2 := h2 (by simp [hdep])
        unfold OpSteps
        simp [go_sem, evS, g2]
        refine (HApx.out W (below_nx HB3.out hT)).mono ?_
        rintro e W' ⟨g9, c9, rfl, ho, hg, hb⟩
        refine ⟨_, rfl, ?_⟩
        exact ⟨kpw h0, fun h => by simpa [sput] using (h1 (by simpa [did] using h)).below hb, kpw h2, fun _ => ⟨g9, c9, by simp [sput], ho, Nat.le_trans hT.size hg⟩, fun h => by simpa [sput] using (h4 (by simpa [did] using h)).below hb, fun h => by simpa [sput] using (h5 (by simpa [did] using h)).below hb, fun h => by simpa [sput] using (h6 (by simpa [did] using h)).below hb, fun h => by have := x5 (by simpa [did] using h); simp [hd] at this, by simpa [sput, did] using x0, by simpa [sput, did] using x1, by simpa [sput, did] using x2, fun e1 _ => by have hq := (h1 (by simpa [did] using e1)).lb_lt; simp [sput, lb_mat]; omega, by simpa [sput, did] using x4, fun _ => by simp [did], below_nx hT hb⟩
    · as_aux_lemma =>
        unfold OpSteps
        simp [go_sem, evS]
        exact ⟨kpw h0, fun h => by simpa [sput] using (h1 (by simpa [did] using h)).below below_one, kpw h2, fun h => by simpa [sput] using (h3 (by simpa [did] using h)).below below_one, fun _ => ⟨W.heap.size, _, _, _, _, _, by simp [sput], Blk.new W _ _, hT.size⟩, fun h => by simpa [sput] using (h5 (by simpa [did] using h)).below below_one, fun h => by have := x0 (by simpa [did] using h); simp [hd] at this, fun h => by simpa [sput] using (h7 (by simpa [did] using h)).below below_one, fun _ => by simp [did], by simpa [sput, did] using x1, fun _ e8 => by have hq := (h5 (by simpa [did] using e8)).new_ne; simp [sput]; exact fun e => hq e.symm, by simpa [sput, did] using x3, by simpa [sput, did] using x4, by simpa [sput, did] using x5, below_al hT⟩
    · as_aux_lemma =>
        unfold OpSteps
        simp [go_sem, evS]
        exact ⟨kpw h0, fun h => by simpa [sput] using (h1 (by simpa [did] using h)).below below_one, kpw h2, fun h => by simpa [sput] using (h3 (by simpa [did] using h)).below below_one, fun h => by simpa [sput] using (h4 (by simpa [did] using h)).below below_one, fun _ => ⟨W.heap.size, _, _, _, _, _, by simp [sput], Blk.new W _ _, hT.size⟩, fun h => by simpa [sput] using (h6 (by simpa [did] using h)).below below_one, fun h => by have := x1 (by simpa [did] using h); simp [hd] at this, by simpa [sput, did] using x0, fun _ => by simp [did], fun e7 _ => by have hq := (h4 (by simpa [did] using e7)).new_ne; simp [sput]; exact hq, by simpa [sput, did] using x3, by simpa [sput, did] using x4, by simpa [sput, did] using x5, below_al hT⟩
    · as_aux_lemma =>
        have g4 := h4 (by simp [hdep])
        have g1 := h1 (by simp [hdep])
        unfold OpSteps
        obtain ⟨p9, z0, z1, z2, z3, z4, gp, hB9, hlo⟩ := g4
        obtain ⟨g9, c9, gv, gO, gz⟩ := g1
        have e7 : d 4 = true := by simp [hdep]
        obtain ⟨fr0, fr1, fr2, fr3, fr4⟩ := frozen5w hB9
        obtain ⟨k0, k1, k2, k3, k4⟩ := cells5 hB9
        have hfar : ∀ k9, k9 ≠ p9 → _ := fun k9 (hk9 : k9 ≠ p9) => heap_sets5 (w := W) hk9 (.slice (some ⟨g9, 0, none⟩) nx c9) (.int .i64 xo) (.int .i64 xr) (.int .i64 xk) (.int .i64 xl)
        simp [go_sem, evS, gp, gv, fr0, fr1, fr2, fr3, fr4, k0, k1, k2, k3, k4]
        exact ⟨kpw h0, fun h => by simpa [sput] using (h1 (by simpa [did] using h)).far hB9 (by decide) hfar, kpw h2, fun h => by simpa [sput] using (h3 (by simpa [did] using h)).far hB9 (by decide) hfar, fun h => ⟨p9, _, _, _, _, _, by simpa [sput] using gp, Blk.store5 hB9 _ _ _ _ _, hlo⟩, fun h => by simpa [sput] using (h5 (by simpa [did] using h)).far (fun e => x2 e7 (by simpa [did] using h) (gp.trans e.symm)) hfar, fun _ => by simp only [sput, gv, lb_mat]; exact ⟨p9, c9, by simpa using gp, Blk.store5 hB9 _ _ _ _ _, own_off gO (own_ne gO hB9 (by decide)) hfar, hlo, gz⟩, fun h => by simpa [sput] using (h7 (by simpa [did] using h)).far hB9 (by decide) (fun e => x2 e7 (x1 (by simpa [did] using h)) (gp.trans e.symm)) hfar, fun _ => by simp [did, hdep], by simpa [sput, did] using x1, by simpa [sput, did] using x2, by simpa [sput, did] using x3, fun _ => by simp [did, hdep], by simpa [sput, did] using x5, below_sets5 hT hlo _ _ _ _ _⟩
    · as_aux_lemma =>
        have g5 := h5 (by simp [hdep])
        have g3 := h3 (by simp [hdep])
        unfold OpSteps
        obtain ⟨p9, z0, z1, z2, z3, z4, gp, hB9, hlo⟩ := g5
        obtain ⟨g9, c9, gv, gO, gz⟩ := g3
        have e7 : d 5 = true := by simp [hdep]
        obtain ⟨fr0, fr1, fr2, fr3, fr4⟩ := frozen5w hB9
        obtain ⟨k0, k1, k2, k3, k4⟩ := cells5 hB9
        have hfar : ∀ k9, k9 ≠ p9 → _ := fun k9 (hk9 : k9 ≠ p9) => heap_sets5 (w := W) hk9 (.slice (some ⟨g9, 0, none⟩) nx c9) (.int .i64 xo) (.int .i64 xr) (.int .i64 xk) (.int .i64 xl)
        simp [go_sem, evS, gp, gv, fr0, fr1, fr2, fr3, fr4, k0, k1, k2, k3, k4]
        exact ⟨kpw h0, fun h => by simpa [sput] using (h1 (by simpa [did] using h)).far hB9 (by decide) hfar, kpw h2, fun h => by simpa [sput] using (h3 (by simpa [did] using h)).far hB9 (by decide) hfar, fun h => by simpa [sput] using (h4 (by simpa [did] using h)).far (fun e => x2 (by simpa [did] using h) e7 (e.trans gp.symm)) hfar, fun h => ⟨p9, _, _, _, _, _, by simpa [sput] using gp, Blk.store5 hB9 _ _ _ _ _, hlo⟩, fun h => by simpa [sput] using (h6 (by simpa [did] using h)).far hB9 (by decide) (fun e => x2 (x0 (by simpa [did] using h)) e7 (e.trans gp.symm)) hfar, fun _ => by simp only [sput, gv, lb_mat]; exact ⟨p9, c9, by simpa using gp, Blk.store5 hB9 _ _ _ _ _, own_off gO (own_ne gO hB9 (by decide)) hfar, hlo, gz⟩, by simpa [sput, did] using x0, fun _ => by simp [did, hdep], by simpa [sput, did] using x2, by simpa [sput, did] using x3, by simpa [sput, did] using x4, fun _ => by simp [did, hdep], below_sets5 hT hlo _ _ _ _ _⟩
  intro d s W hJ hd
  obtain ⟨h0, h1, h2, h3, h4, h5, h6, h7, x0, x1, x2, x3, x4, x5, hT⟩ := hJ
  have hgpq := x3 (hd 1 (by decide)) (hd 3 (by decide))
  have h6' := h6 (hd 6 (by decide))
  have h7' := h7 (hd 7 (by decide))
  have hpp := x2 (hd 4 (by decide)) (hd 5 (by decide))
  clear h0 h1 h2 h3 h4 h5 h6 h7 x0 x1 x2 x3 x4 x5 hd
  generalize lb (s 25) = gp at *
  generalize lb (s 27) = gq at *
  obtain ⟨pp, cp9, hs11, hBp, hOp, hpl, hgl2⟩ := h6'
  obtain ⟨pq, cq9, hs12, hBq, hOq, hql, hgl3⟩ := h7'
  have hpq : pp ≠ pq := fun e => hpp (by rw [hs11, hs12, e])
  have hb : Below w3.heap.size w3 W := hT
  clear hpp hT
  simp [setAll, hs11, hs12]
  clear hs11 hs12
  generalize s 24 = s24
  generalize s 25 = s25
  generalize s 26 = s26
  generalize s 27 = s27
  have hy5 : w.heap.size + 1 < w3.heap.size := Hx3.out.lt
  have HNe := Lib.hid (show gp ≠ gq ∧ pp ≠ pq ∧ w.heap.size + 1 < pp ∧ w.heap.size + 1 < pq ∧ w.heap.size + 1 < gp ∧ w.heap.size + 1 < gq from by refine ⟨hgpq, hpq, by omega, by omega, by omega, by omega⟩)
  clear hy5 hpq hgpq hpl hgl2 hql hgl3
  generalize hW6 : W = w6 at *
  clear hW6
  have Hm4 := Lib.hid (Hm3.out.nxt hb)
  have Hx4 := Lib.hid (Hx3.out.nxt hb)
  have HB4 := Lib.hid (below_nx HB3.out hb)
  clear hb
  clear m0 m1 m2 m3 m4 x0 x1 x2 x3 x4
  obtain ⟨m0, m1, m2, m3, m4⟩ := cells5 Hm4.out
  obtain ⟨x0, x1, x2, x3, x4⟩ := cells5 Hx4.out
  clear Hm3 Hx3 HB3
  have Hp4 := Lib.hid hBp
  have Hq4 := Lib.hid hBq
  have Hu4 := Lib.hid hOp
  have Hv4 := Lib.hid hOq
  clear hBp hBq hOp hOq
  clear m0 m1 m2 m3 m4 x0 x1 x2 x3 x4
  clear HApx HGr HGs
  obtain ⟨m0, m1, m2, m3, m4⟩ := cells5 Hm4.out
  obtain ⟨x0, x1, x2, x3, x4⟩ := cells5 Hx4.out
  obtain ⟨p0, p1, p2, p3, p4⟩ := cells5 Hp4.out
  obtain ⟨q0, q1, q2, q3, q4⟩ := cells5 Hq4.out
  go_wp2_with fail
  clear m0 m1 m2 m3 m4 x0 x1 x2 x3 x4 p0 p1 p2 p3 p4 q0 q1 q2 q3 q4
  have HBb := Lib.hid (fun W (h : Chg [gp, gq] w6 W) => show Below w.heap.size w W from h.below HB4.out HB4.out.size (fun x hx => by have := HNe.out; simp at hx; omega))
  have HMb := Lib.hid (fun W (h : Chg [gp, gq] w6 W) => h.blk (b := w.heap.size) (by have := HNe.out; simp; omega) Hm4.out)
  have HPb := Lib.hid (fun W (h : Chg [gp, gq] w6 W) => h.blk (b := pp) (by have h1 := own_ne Hu4.out Hp4.out (by decide); have h2 := own_ne Hv4.out Hp4.out (by decide); simp; exact ⟨fun e => h1 e.symm, fun e => h2 e.symm⟩) Hp4.out)
  have HQb := Lib.hid (fun W (h : Chg [gp, gq] w6 W) => h.blk (b := pq) (by have h1 := own_ne Hu4.out Hq4.out (by decide); have h2 := own_ne Hv4.out Hq4.out (by decide); simp; exact ⟨fun e => h1 e.symm, fun e => h2 e.symm⟩) Hq4.out)
  have HC1 := Lib.hid (fun W (h : Chg [gp, gq] w6 W) (hO : Own W gp lx) => HPr.out n0 HbN.out.1 W gp cp9 (HBb.out W h) (by have := HNe.out; omega) hO)
  have HC2 := Lib.hid (fun W (h : Chg [gp, gq] w6 W) (hO : Own W gq lx) => HPr.out n1 HbN.out.2 W gq cq9 (HBb.out W h) (by have := HNe.out; omega) hO)
  obtain ⟨e0, u0, v0, x0, y0⟩ := Wn0.out
  obtain ⟨e1, u1, v1, x1, y1⟩ := Wn1.out
  clear HPr Wn0 Wn1
  refine wp_region_inv [28, 29, 30, 31, 32, 33, 34, 35, 36, 37, 38, 39, 40, 41, 13, 14] (fun d s W => (d 0 = true → s 28 = .int .i64 kd) ∧ (d 1 = true → s 29 = .int .u8 (a : Int)) ∧ (d 2 = true → s 30 = .int .i64 (a : Int)) ∧ (d 3 = true → s 31 = .int .i64 (n0 : Int)) ∧ (d 4 = true → s 32 = .agg #[.slice Am nm cm, .int .i64 mo, .int .i64 mr, .int .i64 mk, .int .i64 ml]) ∧ (d 5 = true → s 33 = .agg #[.slice (some ⟨gp, 0, none⟩) nx cp9, .int .i64 xo, .int .i64 xr, .int .i64 xk, .int .i64 xl]) ∧ (d 6 = true → s 34 = .int .i64 E) ∧ (d 7 = true → s 35 = .int .i64 kd) ∧ (d 8 = true → s 36 = .int .u8 (b : Int)) ∧ (d 9 = true → s 37 = .int .i64 (b : Int)) ∧ (d 10 = true → s 38 = .int .i64 (n1 : Int)) ∧ (d 11 = true → s 39 = .agg #[.slice Am nm cm, .int .i64 mo, .int .i64 mr, .int .i64 mk, .int .i64 ml]) ∧ (d 12 = true → s 40 = .agg #[.slice (some ⟨gq, 0, none⟩) nx cq9, .int .i64 xo, .int .i64 xr, .int .i64 xk, .int .i64 xl]) ∧ (d 13 = true → s 41 = .int .i64 E) ∧ (d 14 = true → s 13 = .int .i64 E) ∧ (d 15 = true → s 14 = .int .i64 E) ∧ (Chg [gp, gq] w6 W ∧ (d 6 = false → Own W gp lx) ∧ (d 6 = true → SoP P W gp) ∧ (d 13 = false → Own W gq lx) ∧ (d 13 = true → SoP P W gq)))
    rfl (by kernel_rfl) ?_ ?_ ?_
  · exact ⟨by simp, by simp, by simp, by simp, by simp, by simp, by simp, by simp, by simp, by simp, by simp, by simp, by simp, by simp, by simp, by simp, ⟨(Chg.refl _ _).drew, fun _ => Hu4.out.drew, fun h => by simp at h, fun _ => Hv4.out.drew, fun h => by simp at h⟩⟩
  · refine ⟨?_, ?_, ?_, ?_, ?_, ?_, ?_, ?_, ?_, ?_, ?_, ?_, ?_, ?_, ?_, ?_, trivial⟩
    all_goals
      intro d s W hJ hfr hd hdep
      simp only [List.mem_cons, forall_eq_or_imp, List.not_mem_nil, false_implies, implies_true, and_true, Region.binds] at hdep
      have f0 := hfr 0 (by decide)
      have f1 := hfr 1 (by decide)
      have f2 := hfr 2 (by decide)
      have f8 := hfr 8 (by decide)
      have f11 := hfr 11 (by decide)
      have f12 := hfr 12 (by decide)
      simp at f0 f1 f2 f8 f11 f12 hdep
      obtain ⟨h0, h1, h2, h3, h4, h5, h6, h7, h8, h9, h10, h11, h12, h13, h14, h15, hT⟩ := hJ
    · as_aux_lemma =>
        unfold OpSteps
        simp [go_sem, evS, f0]
        exact ⟨fun _ => by simp [sput], kpw h1, kpw h2, kpw h3, kpw h4, kpw h5, kpw h6, kpw h7, kpw h8, kpw h9, kpw h10, kpw h11, kpw h12, kpw h13, kpw h14, kpw h15, ⟨hT.1, fun h => hT.2.1 (by simpa [did] using h), fun h => hT.2.2.1 (by simpa [did] using h), fun h => hT.2.2.2.1 (by simpa [did] using h), fun h => hT.2.2.2.2 (by simpa [did] using h)⟩⟩
    · as_aux_lemma =>
        unfold OpSteps
        simp [go_sem, evS, f1]
        exact ⟨kpw h0, fun _ => by simp [sput], kpw h2, kpw h3, kpw h4, kpw h5, kpw h6, kpw h7, kpw h8, kpw h9, kpw h10, kpw h11, kpw h12, kpw h13, kpw h14, kpw h15, ⟨hT.1, fun h => hT.2.1 (by simpa [did] using h), fun h => hT.2.2.1 (by simpa [did] using h), fun h => hT.2.2.2.1 (by simpa [did] using h), fun h => hT.2.2.2.2 (by simpa [did] using h)⟩⟩
    · as_aux_lemma =>
        have g1 := h1 (by simp [hdep])
        unfold OpSteps
        simp [go_sem, evS, g1, x0, y0]
        exact ⟨kpw h0, kpw h1, fun _ => by simp [sput], kpw h3, kpw h4, kpw h5, kpw h6, kpw h7, kpw h8, kpw h9, kpw h10, kpw h11, kpw h12, kpw h13, kpw h14, kpw h15, ⟨hT.1, fun h => hT.2.1 (by simpa [did] using h), fun h => hT.2.2.1 (by simpa [did] using h), fun h => hT.2.2.2.1 (by simpa [did] using h), fun h => hT.2.2.2.2 (by simpa [did] using h)⟩⟩
    · as_aux_lemma =>
        have g2 := h2 (by simp [hdep])
        unfold OpSteps
        simp [go_sem, evS, g2, e0, u0, v0]
        exact ⟨kpw h0, kpw h1, kpw h2, fun _ => by simp [sput], kpw h4, kpw h5, kpw h6, kpw h7, kpw h8, kpw h9, kpw h10, kpw h11, kpw h12, kpw h13, kpw h14, kpw h15, ⟨hT.1, fun h => hT.2.1 (by simpa [did] using h), fun h => hT.2.2.1 (by simpa [did] using h), fun h => hT.2.2.2.1 (by simpa [did] using h), fun h => hT.2.2.2.2 (by simpa [did] using h)⟩⟩
    · as_aux_lemma =>
        unfold OpSteps
        obtain ⟨p0, p1, p2, p3, p4⟩ := cells5 (HMb.out W hT.1)
        simp [go_sem, evS, f8, p0, p1, p2, p3, p4]
        exact ⟨kpw h0, kpw h1, kpw h2, kpw h3, fun _ => by simp [sput], kpw h5, kpw h6, kpw h7, kpw h8, kpw h9, kpw h10, kpw h11, kpw h12, kpw h13, kpw h14, kpw h15, ⟨hT.1, fun h => hT.2.1 (by simpa [did] using h), fun h => hT.2.2.1 (by simpa [did] using h), fun h => hT.2.2.2.1 (by simpa [did] using h), fun h => hT.2.2.2.2 (by simpa [did] using h)⟩⟩
    · as_aux_lemma =>
        unfold OpSteps
        obtain ⟨p0, p1, p2, p3, p4⟩ := cells5 (HPb.out W hT.1)
        simp [go_sem, evS, f11, p0, p1, p2, p3, p4]
        exact ⟨kpw h0, kpw h1, kpw h2, kpw h3, kpw h4, fun _ => by simp [sput], kpw h6, kpw h7, kpw h8, kpw h9, kpw h10, kpw h11, kpw h12, kpw h13, kpw h14, kpw h15, ⟨hT.1, fun h => hT.2.1 (by simpa [did] using h), fun h => hT.2.2.1 (by simpa [did] using h), fun h => hT.2.2.2.1 (by simpa [did] using h), fun h => hT.2.2.2.2 (by simpa [did] using h)⟩⟩
    · as_aux_lemma =>
        have g0 := h0 (by simp [hdep])
        have g3 := h3 (by simp [hdep])
        have g4 := h4 (by simp [hdep])
        have g5 := h5 (by simp [hdep])
        unfold OpSteps
        simp [go_sem, evS, g0, g3, g4, g5]
        refine (HC1.out W hT.1 (hT.2.1 hd)).mono ?_
        rintro e W' ⟨rfl, hp9, hc⟩
        refine ⟨_, rfl, ?_⟩
        exact ⟨kpw h0, kpw h1, kpw h2, kpw h3, kpw h4, kpw h5, fun _ => by simp [sput], kpw h7, kpw h8, kpw h9, kpw h10, kpw h11, kpw h12, kpw h13, kpw h14, kpw h15, ⟨hT.1.trans (hc.mono (fun x hx => by simp at hx; simp [hx])), fun h => by simp [did] at h, fun _ => hp9, fun h => hc.own (fun h9 => HNe.out.1 (List.mem_singleton.1 h9).symm) (hT.2.2.2.1 (by simpa [did] using h)), fun h => (hT.2.2.2.2 (by simpa [did] using h)).chg (fun h9 => HNe.out.1 (List.mem_singleton.1 h9).symm) hc⟩⟩
    · as_aux_lemma =>
        unfold OpSteps
        simp [go_sem, evS, f0]
        exact ⟨kpw h0, kpw h1, kpw h2, kpw h3, kpw h4, kpw h5, kpw h6, fun _ => by simp [sput], kpw h8, kpw h9, kpw h10, kpw h11, kpw h12, kpw h13, kpw h14, kpw h15, ⟨hT.1, fun h => hT.2.1 (by simpa [did] using h), fun h => hT.2.2.1 (by simpa [did] using h), fun h => hT.2.2.2.1 (by simpa [did] using h), fun h => hT.2.2.2.2 (by simpa [did] using h)⟩⟩
    · as_aux_lemma =>
        unfold OpSteps
        simp [go_sem, evS, f2]
        exact ⟨kpw h0, kpw h1, kpw h2, kpw h3, kpw h4, kpw h5, kpw h6, kpw h7, fun _ => by simp [sput], kpw h9, kpw h10, kpw h11, kpw h12, kpw h13, kpw h14, kpw h15, ⟨hT.1, fun h => hT.2.1 (by simpa [did] using h), fun h => hT.2.2.1 (by simpa [did] using h), fun h => hT.2.2.2.1 (by simpa [did] using h), fun h => hT.2.2.2.2 (by simpa [did] using h)⟩⟩
    · as_aux_lemma =>
        have g8 := h8 (by simp [hdep])
        unfold OpSteps
        simp [go_sem, evS, g8, x1, y1]
        exact ⟨kpw h0, kpw h1, kpw h2, kpw h3, kpw h4, kpw h5, kpw h6, kpw h7, kpw h8, fun _ => by simp [sput], kpw h10, kpw h11, kpw h12, kpw h13, kpw h14, kpw h15, ⟨hT.1, fun h => hT.2.1 (by simpa [did] using h), fun h => hT.2.2.1 (by simpa [did] using h), fun h => hT.2.2.2.1 (by simpa [did] using h), fun h => hT.2.2.2.2 (by simpa [did] using h)⟩⟩
    · as_aux_lemma =>
        have g9 := h9 (by simp [hdep])
        unfold OpSteps
        simp [go_sem, evS, g9, e1, u1, v1]
        exact ⟨kpw h0, kpw h1, kpw h2, kpw h3, kpw h4, kpw h5, kpw h6, kpw h7, kpw h8, kpw h9, fun _ => by simp [sput], kpw h11, kpw h12, kpw h13, kpw h14, kpw h15, ⟨hT.1, fun h => hT.2.1 (by simpa [did] using h), fun h => hT.2.2.1 (by simpa [did] using h), fun h => hT.2.2.2.1 (by simpa [did] using h), fun h => hT.2.2.2.2 (by simpa [did] using h)⟩⟩
    · as_aux_lemma =>
        unfold OpSteps
        obtain ⟨p0, p1, p2, p3, p4⟩ := cells5 (HMb.out W hT.1)
        simp [go_sem, evS, f8, p0, p1, p2, p3, p4]
        exact ⟨kpw h0, kpw h1, kpw h2, kpw h3, kpw h4, kpw h5, kpw h6, kpw h7, kpw h8, kpw h9, kpw h10, fun _ => by simp [sput], kpw h12, kpw h13, kpw h14, kpw h15, ⟨hT.1, fun h => hT.2.1 (by simpa [did] using h), fun h => hT.2.2.1 (by simpa [did] using h), fun h => hT.2.2.2.1 (by simpa [did] using h), fun h => hT.2.2.2.2 (by simpa [did] using h)⟩⟩
    · as_aux_lemma =>
        unfold OpSteps
        obtain ⟨p0, p1, p2, p3, p4⟩ := cells5 (HQb.out W hT.1)
        simp [go_sem, evS, f12, p0, p1, p2, p3, p4]
        exact ⟨kpw h0, kpw h1, kpw h2, kpw h3, kpw h4, kpw h5, kpw h6, kpw h7, kpw h8, kpw h9, kpw h10, kpw h11, fun _ => by simp [sput], kpw h13, kpw h14, kpw h15, ⟨hT.1, fun h => hT.2.1 (by simpa [did] using h), fun h => hT.2.2.1 (by simpa [did] using h), fun h => hT.2.2.2.1 (by simpa [did] using h), fun h => hT.2.2.2.2 (by simpa [did] using h)⟩⟩
    · as_aux_lemma =>
        have g7 := h7 (by simp [hdep])
        have g10 := h10 (by simp [hdep])
        have g11 := h11 (by simp [hdep])
        have g12 := h12 (by simp [hdep])
        unfold OpSteps
        simp [go_sem, evS, g7, g10, g11, g12]
        refine (HC2.out W hT.1 (hT.2.2.2.1 hd)).mono ?_
        rintro e W' ⟨rfl, hp9, hc⟩
        refine ⟨_, rfl, ?_⟩
        exact ⟨kpw h0, kpw h1, kpw h2, kpw h3, kpw h4, kpw h5, kpw h6, kpw h7, kpw h8, kpw h9, kpw h10, kpw h11, kpw h12, fun _ => by simp [sput], kpw h14, kpw h15, ⟨hT.1.trans (hc.mono (fun x hx => by simp at hx; simp [hx])), fun h => hc.own (fun h9 => HNe.out.1 (List.mem_singleton.1 h9)) (hT.2.1 (by simpa [did] using h)), fun h => (hT.2.2.1 (by simpa [did] using h)).chg (fun h9 => HNe.out.1 (List.mem_singleton.1 h9)) hc, fun h => by simp [did] at h, fun _ => hp9⟩⟩
    · as_aux_lemma =>
        have g6 := h6 (by simp [hdep])
        unfold OpSteps
        simp [go_sem, evS, g6]
        exact ⟨kpw h0, kpw h1, kpw h2, kpw h3, kpw h4, kpw h5, kpw h6, kpw h7, kpw h8, kpw h9, kpw h10, kpw h11, kpw h12, kpw h13, fun _ => by simp [sput], kpw h15, ⟨hT.1, fun h => hT.2.1 (by simpa [did] using h), fun h => hT.2.2.1 (by simpa [did] using h), fun h => hT.2.2.2.1 (by simpa [did] using h), fun h => hT.2.2.2.2 (by simpa [did] using h)⟩⟩
    · as_aux_lemma =>
        have g13 := h13 (by simp [hdep])
        unfold OpSteps
        simp [go_sem, evS, g13]
        exact ⟨kpw h0, kpw h1, kpw h2, kpw h3, kpw h4, kpw h5, kpw h6, kpw h7, kpw h8, kpw h9, kpw h10, kpw h11, kpw h12, kpw h13, kpw h14, fun _ => by simp [sput], ⟨hT.1, fun h => hT.2.1 (by simpa [did] using h), fun h => hT.2.2.1 (by simpa [did] using h), fun h => hT.2.2.2.1 (by simpa [did] using h), fun h => hT.2.2.2.2 (by simpa [did] using h)⟩⟩
  intro d s W hJ hd
  obtain ⟨h0, h1, h2, h3, h4, h5, h6, h7, h8, h9, h10, h11, h12, h13, h14, h15, hT⟩ := hJ
  have hp1 := hT.2.2.1 (hd 6 (by decide))
  have hp2 := hT.2.2.2.2 (hd 13 (by decide))
  have hs13 := h14 (hd 14 (by decide))
  have hs14 := h15 (hd 15 (by decide))
  obtain ⟨X1, hX1, hOX1⟩ := hp1
  obtain ⟨X2, hX2, hOX2⟩ := hp2
  have HX1 := Lib.hid hX1
  have HX2 := Lib.hid hX2
  have HO1 := Lib.hid hOX1
  have HO2 := Lib.hid hOX2
  have HB9 := Lib.hid (HBb.out W hT.1)
  have HP9 := Lib.hid (HPb.out W hT.1)
  have HQ9 := Lib.hid (HQb.out W hT.1)
  clear h0 h1 h2 h3 h4 h5 h6 h7 h8 h9 h10 h11 h12 h13 h14 h15 hT hd hX1 hX2 hOX1 hOX2
  simp [setAll, hs13, hs14]
  clear hs13 hs14 e0 u0 v0 x0 y0 e1 u1 v1 x1 y1
  generalize s 28 = s28
  generalize s 29 = s29
  generalize s 30 = s30
  generalize s 31 = s31
  generalize s 32 = s32
  generalize s 33 = s33
  generalize s 34 = s34
  generalize s 35 = s35
  generalize s 36 = s36
  generalize s 37 = s37
  generalize s 38 = s38
  generalize s 39 = s39
  generalize s 40 = s40
  generalize s 41 = s41
  generalize W = w9 at *
  obtain ⟨p0, p1, p2, p3, p4⟩ := cells5 HP9.out
  obtain ⟨q0, q1, q2, q3, q4⟩ := cells5 HQ9.out
  go_wp2_with fail
  refine (HAll.out _ _ _ _ _ _ _ HX1.out HX2.out HO1.out.row HO2.out.row).mono ?_
  rintro e wa ⟨rfl, hb⟩
  have HBa := Lib.hid (below_nx HB9.out hb)
  clear hb p0 p1 p2 p3 p4 q0 q1 q2 q3 q4
  go_wp2_with fail
  refine (HAw.out _).mono ?_
  rintro e wb ⟨rfl, hb⟩
  have HBz := Lib.hid (below_nx HBa.out hb)
  clear hb
  go_wp2_with fail
  go_ret
  exact ⟨rfl, HBz.out⟩
end Go.Proofs.Ytcdhpoikppfjkaa
