/-
Trsm's laws: the example. Conditions: none.
-/
import Derived.Test.YtcdhpoikppfjkaaWaat
import Derived.Test.YtcdhpoikppfjkaaZYTsK
import Derived.Test.YtcdhpoikppfjkaaWaas
import Derived.Test.YtcdhpoikppfjkaaWaae
import Derived.Test.YtcdhpoikppfjkaaWaal
import Derived.Test.YtcdhpoikppfjkaaWaai
set_option linter.unusedVariables false
set_option linter.unusedSimpArgs false
set_option linter.unnecessarySimpa false
namespace Go.Proofs.Ytcdhpoikppfjkaa
open Go.RowKit
attribute [local go_sem ↓] Go.wp_at_zero Go.wp_at_succ

def exS0 : List Nat := [4616189618054758400, 4616189618054758400, 4620693217682128896, 4620693217682128896]
def exS1 : List Nat := [4616189618054758400, 4620693217682128896, 4616189618054758400, 4620693217682128896]
def exS4 : List Nat := [4607182418800017408, 4611686018427387904, 4607182418800017408, 4611686018427387904]
theorem exS1_wds : Wds exS1 := by intro b hb; simp [exS1] at hb; omega
theorem exS4_wds : Wds exS4 := by intro b hb; simp [exS4] at hb; omega
theorem ex_denseS {M : List Nat} (h : Dense exS0 2 2 M) : M = exS1 := dense_ex h
theorem ex_denseT {M : List Nat} (h : Dense exT2 2 2 M) : M = exT3 := dense_ex h
theorem ex_trsm {F : Nat → Nat → Nat} {y : List Nat} (h0 : ∀ j, j < 2 → F j 0 = 4607182418800017408 ∧ F j 1 = 4611686018427387904) (h : Imr exS1 0 2 2 2 (fun i j r => Is r (F j i)) y) : y = exS4 := by
  have key : ∀ i, i < 2 → ∀ j, j < 2 → ∀ v, F j i = v → Fl.nan v = false → y.getD (0 + i + j * 2) 0 = v := fun i hi j hj v hv hn => by
    have h9 : Is (y.getD (0 + i + j * 2) 0) (F j i) := h.2.1 i hi j hj
    rw [hv] at h9
    exact h9.eq_of hn
  refine ext_getD h.1 fun x hx => ?_
  have hx2 : x < 4 := by rw [h.1] at hx; exact hx
  match x, hx2 with
  | 0, _ => exact key 0 (by omega) 0 (by omega) _ (h0 0 (by omega)).1 (by decide)
  | 1, _ => exact key 1 (by omega) 0 (by omega) _ (h0 0 (by omega)).2 (by decide)
  | 2, _ => exact key 0 (by omega) 1 (by omega) _ (h0 1 (by omega)).1 (by decide)
  | 3, _ => exact key 1 (by omega) 1 (by omega) _ (h0 1 (by omega)).2 (by decide)

set_option maxRecDepth 100000 in
set_option maxHeartbeats 2000000 in
theorem awake14_any (w : World) : Calls Try.prog 5 #[] w fun e w' => e = .returned (.bool true) ∧ Below w.heap.size w w' := by
  have z0 : I64 0 := by unfold I64; omega
  have z2 : I64 2 := by unfold I64; omega
  have HD1 := Lib.hid (fun (g : Nat) W (hO : Own W g exS0) => show Calls Try.prog 16 #[.int .i64 2, .int .i64 2, .slice (some ⟨g, 0, none⟩) 4 4] W fun e w' => ∃ g, e = .returned (.agg #[.slice (some ⟨g, 0, none⟩) 4 4, .int .i64 0, .int .i64 2, .int .i64 2, .int .i64 2]) ∧ Own w' g exS1 ∧ W.heap.size ≤ g ∧ Below W.heap.size W w' from by
    refine (dense_blk (some ⟨g, 0, none⟩) 4 exS0 2 2 W (by omega) (by omega) hO.row (by decide) (by decide)).mono ?_
    rintro e w' ⟨g', M, rfl, hd, hB, hg, hb⟩
    obtain rfl := ex_denseS hd
    exact ⟨g', rfl, own_blk hB, hg, hb⟩)
  have HD2 := Lib.hid (fun (g : Nat) W (hO : Own W g exT2) => show Calls Try.prog 16 #[.int .i64 2, .int .i64 2, .slice (some ⟨g, 0, none⟩) 4 4] W fun e w' => ∃ g, e = .returned (.agg #[.slice (some ⟨g, 0, none⟩) 4 4, .int .i64 0, .int .i64 2, .int .i64 2, .int .i64 2]) ∧ Own w' g exT3 ∧ W.heap.size ≤ g ∧ Below W.heap.size W w' from by
    refine (dense_blk (some ⟨g, 0, none⟩) 4 exT2 2 2 W (by omega) (by omega) hO.row (by decide) (by decide)).mono ?_
    rintro e w' ⟨g', M, rfl, hd, hB, hg, hb⟩
    obtain rfl := ex_denseT hd
    exact ⟨g', rfl, own_blk hB, hg, hb⟩)
  have HSo0 := Lib.hid (fun (g gm : Nat) W (hO : Own W g exS1) (hM : Own W gm exT3) (h1 : gm ≠ g) => show Calls Try.prog 8 #[.int .i64 2, .int .i64 1, .agg #[.slice (some ⟨gm, 0, none⟩) 4 4, .int .i64 0, .int .i64 2, .int .i64 2, .int .i64 2], .agg #[.slice (some ⟨g, 0, none⟩) 4 4, .int .i64 0, .int .i64 2, .int .i64 2, .int .i64 2]] W fun e w' => e = .returned (.int .i64 0) ∧ Own w' g exS4 ∧ Chg [g] W w' from by
    have hE : ∀ j, ∃ E F, TrS 2 2 (trV 2 (fun i k => exT3.getD (0 + i + k * 2) 0)) (fun p => exS1.getD (0 + p + j * 2) 0) E F := fun j => trS_exists 2 2 _ _ (by omega)
    refine (ts_ok (tsH_far W (some ⟨gm, 0, none⟩) 4 4 0 2 2 exT3 g 4 4 exS1 0 2 2 ⟨hM.row, fun p q e _ => by injection e with e; injection e with e1 e2; subst e1; subst e2; exact hM.frozen 0, fun p q e _ h => by injection e with e; injection e with e1 e2; omega⟩
      rfl (by omega) z2 (by omega) (by omega) (by omega) (by omega) z0 exT3_wds rfl (by omega) (by omega) z2 (by omega) (by omega) (by omega) z0 exS1_wds) 2 (by omega) 1 (by omega) (by omega) (by omega)
      (E := fun j => (hE j).choose) (F := fun j => (hE j).choose_spec.choose) (fun j => (hE j).choose_spec.choose_spec) (fun _ => by decide +kernel) hO (MxC.of_row (n := 4) hM.row rfl (by omega))).mono ?_
    rintro e w' ⟨rfl, y, k1, k2, k3⟩
    have hF := fun j (hj : j < 2) => ex_trs (((hE j).choose_spec.choose_spec).agree (by omega) (fun _ _ _ _ => rfl) (fun p hp => by
      match j, hj, p, hp with
      | 0, _, 0, _ => rfl
      | 0, _, 1, _ => rfl
      | 1, _, 0, _ => rfl
      | 1, _, 1, _ => rfl))
    rw [ex_trsm hF k1] at k2
    exact ⟨rfl, k2, k3⟩)
  have HAl := Lib.hid (fun (A B : Option Addr) (W : World) (h : Row W A (f64s exS4)) (h' : Row W B (f64s exS4)) => show Calls Try.prog 14 #[.slice A 4 4, .slice B 4 4] W fun e w' => e = .returned (.bool true) ∧ Below W.heap.size W w' from
    rall_any A B 4 4 exS4 exS4 W exS4_wds exS4_wds h h' (by decide) (Alike.refl _))
  have HB0 := Lib.hid ((Below.refl w.heap.size w))
  have HN0 := Lib.hid (own_blk (Blk.new w 43 (f64s exS0).toArray))
  have HB1 := Lib.hid (below_al HB0.out (o := .cells (f64s exS0).toArray 43))
  clear z0 z2
  go_enter Try.func5, Try.ntmps5
  go_wp2_with fail
  refine (HD1.out _ _ HN0.out).mono ?_
  rintro e w1 ⟨g, rfl, hO, hg, hb⟩
  have HB2 := Lib.hid (below_al (below_nx HB1.out hb) (o := (.cells #[.slice (some ⟨g, 0, none⟩) 4 4, .int .i64 0, .int .i64 2, .int .i64 2, .int .i64 2] 24)))
  have HM0 := Lib.hid (Blk.new w1 24 #[.slice (some ⟨g, 0, none⟩) 4 4, .int .i64 0, .int .i64 2, .int .i64 2, .int .i64 2])
  have HO1 := Lib.hid (hO.nxt (below_one (o := (.cells #[.slice (some ⟨g, 0, none⟩) 4 4, .int .i64 0, .int .i64 2, .int .i64 2, .int .i64 2] 24))))
  have hgl : g < w1.heap.size := hO.lt
  have hgw : w.heap.size ≤ g := by simp at hg; omega
  clear hb hO hg
  go_upto_region 2 with fail
  generalize hwr : w1.alloc (.cells #[.slice (some ⟨g, 0, none⟩) 4 4, .int .i64 0, .int .i64 2, .int .i64 2, .int .i64 2] 24) = wr at *
  generalize hz0 : w1.heap.size = z0 at *
  have HM1 := HM0
  have Hgz := Lib.hid (show g < z0 ∧ z0 < wr.heap.size ∧ w.heap.size ≤ g from ⟨hgl, HM0.out.lt, hgw⟩)
  have HSo := Lib.hid (fun (gm : Nat) W (hb : Below wr.heap.size wr W) (hM : Own W gm exT3) (h1 : wr.heap.size ≤ gm) => show Calls Try.prog 8 #[.int .i64 2, .int .i64 1, .agg #[.slice (some ⟨gm, 0, none⟩) 4 4, .int .i64 0, .int .i64 2, .int .i64 2, .int .i64 2], .agg #[.slice (some ⟨g, 0, none⟩) 4 4, .int .i64 0, .int .i64 2, .int .i64 2, .int .i64 2]] W fun e w' => e = .returned (.int .i64 0) ∧ (Own w' g exS4 ∧ Chg [g] wr w') from (HSo0.out g gm W (HO1.out.nxt hb) hM (by have := Hgz.out; omega)).mono fun e w' ⟨e1, e2, e3⟩ => ⟨e1, e2, (Chg.of_below hb).trans e3⟩)
  clear hwr hz0 hgl hgw HSo0 HM0 HB0 HB1 HN0
  refine wp_region_inv [5, 6, 7, 8, 2] (fun d s W => (d 0 = true → d 3 = false → NwL W (s 5) exT2 4) ∧ (d 1 = true → d 3 = false → NwM W (s 6) wr.heap.size exT3 4 2 2 2) ∧ (d 2 = true → s 7 = .agg #[.slice (some ⟨g, 0, none⟩) 4 4, .int .i64 0, .int .i64 2, .int .i64 2, .int .i64 2]) ∧ (d 3 = true → s 8 = .int .i64 0) ∧ (d 4 = true → s 2 = .int .i64 0) ∧ (d 1 = true → d 0 = true) ∧ (d 3 = true → d 0 = true ∧ d 1 = true ∧ d 2 = true) ∧ ((d 3 = false → Below wr.heap.size wr W) ∧ (d 3 = true → Own W g exS4 ∧ Chg [g] wr W)))
    rfl (by kernel_rfl) ?_ ?_ ?_
  · exact ⟨by simp, by simp, by simp, by simp, by simp, by simp, by simp, ⟨fun _ => (Below.refl _ _).drew, fun h => by simp at h⟩⟩
  · refine ⟨?_, ?_, ?_, ?_, ?_, trivial⟩
    all_goals
      intro d s W hJ hfr hd hdep
      simp only [List.mem_cons, forall_eq_or_imp, List.not_mem_nil, false_implies, implies_true, and_true, Region.binds] at hdep
      have f1 := hfr 1 (by decide)
      simp at f1 hdep
      obtain ⟨h0, h1, h2, h3, h4, x0, x1, hT⟩ := hJ
    · have hl : d 3 = false := by
        cases h : d 3
        · rfl
        · have := x1 h; simp [hd] at this
      replace hT := hT.1 hl
      unfold OpSteps
      simp [go_sem, evS]
      exact ⟨fun _ => fun _ => ⟨W.heap.size, by simp [sput], own_blk (Blk.new W 43 (f64s exT2).toArray)⟩, fun h e => by simpa [sput] using (h1 (by simpa [did] using h) hl).below below_one, fun h => by simpa [sput] using h2 (by simpa [did] using h), fun h => by simpa [sput] using h3 (by simpa [did] using h), fun h => by simpa [sput] using h4 (by simpa [did] using h), fun h => by have := x0 (by simpa [did] using h); simp [did, this], fun h => by have := x1 (by simpa [did] using h); simp [did, this], ⟨fun _ => below_al hT, fun h => by simp [did, hl] at h⟩⟩
    · have hl : d 3 = false := by
        cases h : d 3
        · rfl
        · have := x1 h; simp [hd] at this
      replace hT := hT.1 hl
      have g0 := h0 (by simp [hdep])
      unfold OpSteps
      obtain ⟨q9, gv9, gO9⟩ := g0 hl
      simp [go_sem, evS, gv9]
      refine (HD2.out q9 W gO9).mono ?_
      rintro e W' ⟨g9, rfl, hO9, hg9, hb⟩
      refine ⟨_, rfl, ?_⟩
      exact ⟨fun h e => by simpa [sput] using (h0 (by simpa [did] using h) hl).below hb, fun _ => fun _ => ⟨g9, by simp [sput], hO9, Nat.le_trans hT.size hg9⟩, fun h => by simpa [sput] using h2 (by simpa [did] using h), fun h => by simpa [sput] using h3 (by simpa [did] using h), fun h => by simpa [sput] using h4 (by simpa [did] using h), fun _ => by simp [did, hdep], fun h => by have := x1 (by simpa [did] using h); simp [did, this], ⟨fun _ => below_nx hT hb, fun h => by simp [did, hl] at h⟩⟩
    · have hl : d 3 = false := by
        cases h : d 3
        · rfl
        · have := x1 h; simp [hd] at this
      replace hT := hT.1 hl
      unfold OpSteps
      obtain ⟨p0, p1, p2, p3, p4⟩ := cells5 (HM1.out.below hT HM1.out.lt)
      simp [go_sem, evS, f1, p0, p1, p2, p3, p4]
      exact ⟨fun h e => by simpa [sput] using h0 (by simpa [did] using h) (by simpa [did] using e), fun h e => by simpa [sput] using h1 (by simpa [did] using h) (by simpa [did] using e), fun _ => by simp [sput], fun h => by simpa [sput] using h3 (by simpa [did] using h), fun h => by simpa [sput] using h4 (by simpa [did] using h), fun h => by have := x0 (by simpa [did] using h); simp [did, this], fun h => by have := x1 (by simpa [did] using h); simp [did, this], ⟨fun _ => hT, fun h => by simp [did, hl] at h⟩⟩
    · have g1 := h1 (by simp [hdep])
      have g2 := h2 (by simp [hdep])
      unfold OpSteps
      obtain ⟨q9, gv9, gO9, gl9⟩ := g1 hd
      have hT0 := hT.1 hd
      simp [go_sem, evS, g2, gv9]
      refine (HSo.out q9 W hT0 gO9 gl9).mono ?_
      rintro e W' ⟨rfl, hD9⟩
      refine ⟨_, rfl, ?_⟩
      exact ⟨fun h e => by simp [did] at e, fun h e => by simp [did] at e, fun h => by simpa [sput] using h2 (by simpa [did] using h), fun _ => by simp [sput], fun h => by simpa [sput] using h4 (by simpa [did] using h), fun h => by have := x0 (by simpa [did] using h); simp [did, this], fun _ => by have y1 := x0 (by simp [hdep]); simp [did, hdep, y1], ⟨fun h => by simp [did] at h, fun _ => hD9⟩⟩
    · have g3 := h3 (by simp [hdep])
      unfold OpSteps
      simp [go_sem, evS, g3]
      exact ⟨fun h e => by simpa [sput] using h0 (by simpa [did] using h) (by simpa [did] using e), fun h e => by simpa [sput] using h1 (by simpa [did] using h) (by simpa [did] using e), fun h => by simpa [sput] using h2 (by simpa [did] using h), fun h => by simpa [sput] using h3 (by simpa [did] using h), fun _ => by simp [sput], fun h => by have := x0 (by simpa [did] using h); simp [did, this], fun h => by have := x1 (by simpa [did] using h); simp [did, this], by simpa [did] using hT⟩
  intro d s W hJ hd
  obtain ⟨h0, h1, h2, h3, h4, x0, x1, hT⟩ := hJ
  obtain ⟨ho9, hc9⟩ := hT.2 (hd 3 (by decide))
  have HO9 := Lib.hid ho9
  have HC9 := Lib.hid hc9
  have hs2 := h4 (hd 4 (by decide))
  clear h0 h1 h2 h3 h4 x0 x1 hd ho9 hc9 hT
  simp [setAll, hs2]
  clear hs2
  generalize s 5 = s5
  generalize s 6 = s6
  generalize s 7 = s7
  generalize s 8 = s8
  generalize W = w9 at *
  have HM9 := Lib.hid (HC9.out.blk (by have := Hgz.out; simp; omega) HM1.out)
  have HB9 := Lib.hid (HC9.out.below HB2.out HB2.out.size (fun x hx => by have := Hgz.out; simp at hx; omega))
  have HL9 := Lib.hid (own_blk (Blk.new w9 43 (f64s exS4).toArray)).row
  have HA9 := Lib.hid (HAl.out (some ⟨g, 0, none⟩) (some ⟨w9.heap.size, 0, none⟩) (w9.alloc (.cells (f64s exS4).toArray 43)) (HO9.out.nxt below_one).row (own_blk (Blk.new w9 43 (f64s exS4).toArray)).row)
  have HBe := Lib.hid (below_al HB9.out (o := .cells (f64s exS4).toArray 43))
  obtain ⟨m0, m1, m2, m3, m4⟩ := cells5 HM9.out
  go_wp2_with fail
  refine HA9.out.mono ?_
  rintro e wa ⟨rfl, hb⟩
  have HBf := Lib.hid (below_nx HBe.out hb)
  clear hb m0 m1 m2 m3 m4
  go_wp2_with fail
  go_ret
  exact ⟨rfl, HBf.out⟩
end Go.Proofs.Ytcdhpoikppfjkaa
/-
TrsmSolves: what its walks hold. Conditions: as each says.
-/
set_option linter.unusedVariables false
set_option linter.unusedSimpArgs false
set_option linter.unnecessarySimpa false
namespace Go.Proofs.Ytcdhpoikppfjkaa
open Go.RowKit
attribute [local go_sem ↓] Go.wp_at_zero Go.wp_at_succ

/-- A table with these numbers; one of so many; a list with such a table's numbers in its places. -/
def TsTb (R C N : Nat) (F : Nat → Nat → Nat) (T : List Nat) : Prop := T.length = N ∧ ∀ i, i < R → ∀ j, j < C → Is (T.getD (i * C + j) 0) (F j i)
def TsTl (N : Nat) (T : List Nat) : Prop := T.length = N
def TsIm (R C N : Nat) (F : Nat → Nat → Nat) (l : List Nat) (o L : Nat) (l2 : List Nat) : Prop := ∃ T, TsTb R C N F T ∧ Img l o R C L (fun i j => T.getD (i * C + j) 0) l2
/-- A table and a truth; a table; a box for one, and one in it. -/
def TuM (W : World) (v : Value) (S : List Nat → Prop) (R C N : Nat) (b : Bool) : Prop := ∃ g c T, v = .tuple #[.agg #[.int .i64 (R : Int), .int .i64 (C : Int), .slice (some ⟨g, 0, none⟩) N c], .bool b] ∧ S T ∧ Own W g T
def ToM (W : World) (v : Value) (S : List Nat → Prop) (R C N : Nat) : Prop := ∃ g c T, v = .agg #[.int .i64 (R : Int), .int .i64 (C : Int), .slice (some ⟨g, 0, none⟩) N c] ∧ S T ∧ Own W g T
def NbT (W : World) (v : Value) (z : Nat) : Prop := ∃ p x0 x1 x2, v = .pointer (some ⟨p, 0, none⟩) ∧ Blk W p 31 #[x0, x1, x2] ∧ z ≤ p
def PqT (W : World) (v : Value) (z : Nat) (S : List Nat → Prop) (R C N : Nat) : Prop := ∃ p g c T, v = .pointer (some ⟨p, 0, none⟩) ∧ Blk W p 31 #[.int .i64 (R : Int), .int .i64 (C : Int), .slice (some ⟨g, 0, none⟩) N c] ∧ S T ∧ Own W g T ∧ z ≤ p
section
variable {W W' : World} {v : Value} {S : List Nat → Prop} {R C N z p : Nat} {b : Bool} {t : TypeId} {cs : Array Value}
theorem TuM.below (h : TuM W v S R C N b) (hb : Below W.heap.size W W') : TuM W' v S R C N b := by
  obtain ⟨g, c, T, h1, h2, h3⟩ := h; exact ⟨g, c, T, h1, h2, h3.nxt hb⟩
theorem ToM.below (h : ToM W v S R C N) (hb : Below W.heap.size W W') : ToM W' v S R C N := by
  obtain ⟨g, c, T, h1, h2, h3⟩ := h; exact ⟨g, c, T, h1, h2, h3.nxt hb⟩
theorem NbT.below (h : NbT W v z) (hb : Below W.heap.size W W') : NbT W' v z := by
  obtain ⟨p, x0, x1, x2, h1, h2, h3⟩ := h; exact ⟨p, x0, x1, x2, h1, h2.nxt hb, h3⟩
theorem PqT.below (h : PqT W v z S R C N) (hb : Below W.heap.size W W') : PqT W' v z S R C N := by
  obtain ⟨p, g, c, T, h1, h2, h3, h4, h5⟩ := h; exact ⟨p, g, c, T, h1, h2.nxt hb, h3, h4.nxt hb, h5⟩
theorem TuM.far (h : TuM W v S R C N b) (hB : Blk W p t cs) (ht : t ≠ 43) (hb : ∀ k, k ≠ p → W'.heap[k]? = W.heap[k]?) : TuM W' v S R C N b := by
  obtain ⟨g, c, T, h1, h2, h3⟩ := h; exact ⟨g, c, T, h1, h2, own_off h3 (own_ne h3 hB ht) hb⟩
theorem ToM.far (h : ToM W v S R C N) (hB : Blk W p t cs) (ht : t ≠ 43) (hb : ∀ k, k ≠ p → W'.heap[k]? = W.heap[k]?) : ToM W' v S R C N := by
  obtain ⟨g, c, T, h1, h2, h3⟩ := h; exact ⟨g, c, T, h1, h2, own_off h3 (own_ne h3 hB ht) hb⟩
end
end Go.Proofs.Ytcdhpoikppfjkaa
