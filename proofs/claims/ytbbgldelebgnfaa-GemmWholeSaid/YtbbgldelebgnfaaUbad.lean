/-
GemmWhole: what its walk holds. Conditions: as each says.
-/
import Derived.Test.YtbbgldelebgnfaaZGhD
import Derived.Test.YtbbgldelebgnfaaZGhT
set_option linter.unusedVariables false
set_option linter.unusedSimpArgs false
set_option linter.unnecessarySimpa false
namespace Go.Proofs.Ytbbgldelebgnfaa
open Go.RowKit
attribute [local go_sem ↓] Go.wp_at_zero Go.wp_at_succ

set_option maxHeartbeats 2000000 in
theorem ggreat_any (Ax : Option Addr) (nx cx : Nat) (xo xr xk xl : Int) (Ay : Option Addr) (ny cy : Nat) (yo yr yk yl : Int) (Az : Option Addr) (nz cz : Nat) (zo zr zk zl : Int) (w : World) :
    Calls Try.prog 7 #[mat Ax nx cx xo xr xk xl, mat Ay ny cy yo yr yk yl, mat Az nz cz zo zr zk zl] w fun e w' => e = .returned (.bool (greatB nx xr xk || greatB ny yr yk || greatB nz zr zk)) ∧ Below w.heap.size w w' := by
  have HGx := Lib.hid (fun W => great_any Ax nx cx xo xr xk xl W)
  have HGy := Lib.hid (fun W => great_any Ay ny cy yo yr yk yl W)
  have HGz := Lib.hid (fun W => great_any Az nz cz zo zr zk zl W)
  generalize greatB nx xr xk = b1 at *
  generalize greatB ny yr yk = b2 at *
  generalize greatB nz zr zk = b3 at *
  cases b1
  · cases b2
    · rw [Bool.or_false, Bool.false_or]
      unfold mat at *
      go_enter Try.func7, Try.ntmps7
      have Hx0 := Lib.hid (((Blk.new w 25 #[.slice Ax nx cx, .int .i64 xo, .int .i64 xr, .int .i64 xk, .int .i64 xl]).alloc (.cells #[.slice Ay ny cy, .int .i64 yo, .int .i64 yr, .int .i64 yk, .int .i64 yl] 25)).alloc (.cells #[.slice Az nz cz, .int .i64 zo, .int .i64 zr, .int .i64 zk, .int .i64 zl] 25))
      have Hy0 := Lib.hid ((Blk.new_ (w.alloc (.cells #[.slice Ax nx cx, .int .i64 xo, .int .i64 xr, .int .i64 xk, .int .i64 xl] 25)) 25 #[.slice Ay ny cy, .int .i64 yo, .int .i64 yr, .int .i64 yk, .int .i64 yl] (w.heap.size + 1) (by simp)).alloc (.cells #[.slice Az nz cz, .int .i64 zo, .int .i64 zr, .int .i64 zk, .int .i64 zl] 25))
      have Hz0 := Lib.hid (Blk.new_ ((w.alloc (.cells #[.slice Ax nx cx, .int .i64 xo, .int .i64 xr, .int .i64 xk, .int .i64 xl] 25)).alloc (.cells #[.slice Ay ny cy, .int .i64 yo, .int .i64 yr, .int .i64 yk, .int .i64 yl] 25)) 25 #[.slice Az nz cz, .int .i64 zo, .int .i64 zr, .int .i64 zk, .int .i64 zl] (w.heap.size + 1 + 1) (by simp))
      have HB0 := Lib.hid ((((Below.refl w.heap.size w).alloc (Nat.le_refl _) (.cells #[.slice Ax nx cx, .int .i64 xo, .int .i64 xr, .int .i64 xk, .int .i64 xl] 25)).alloc (by simp) (.cells #[.slice Ay ny cy, .int .i64 yo, .int .i64 yr, .int .i64 yk, .int .i64 yl] 25)).alloc (by simp; omega) (.cells #[.slice Az nz cz, .int .i64 zo, .int .i64 zr, .int .i64 zk, .int .i64 zl] 25))
      obtain ⟨x0, x1, x2, x3, x4⟩ := cells5 Hx0.out
      obtain ⟨y0, y1, y2, y3, y4⟩ := cells5 Hy0.out
      obtain ⟨z0, z1, z2, z3, z4⟩ := cells5 Hz0.out
      go_wp2_with fail
      refine (HGx.out _).mono ?_
      rintro e w1 ⟨rfl, hb⟩
      have Hx1 := Lib.hid (Hx0.out.nxt hb)
      have Hy1 := Lib.hid (Hy0.out.nxt hb)
      have Hz1 := Lib.hid (Hz0.out.nxt hb)
      have HB1 := Lib.hid (below_nx HB0.out hb)
      clear hb
      clear x0 x1 x2 x3 x4 y0 y1 y2 y3 y4 z0 z1 z2 z3 z4
      obtain ⟨x0, x1, x2, x3, x4⟩ := cells5 Hx1.out
      obtain ⟨y0, y1, y2, y3, y4⟩ := cells5 Hy1.out
      obtain ⟨z0, z1, z2, z3, z4⟩ := cells5 Hz1.out
      go_wp2_with fail
      refine (HGy.out _).mono ?_
      rintro e w2 ⟨rfl, hb⟩
      have Hx2 := Lib.hid (Hx1.out.nxt hb)
      have Hy2 := Lib.hid (Hy1.out.nxt hb)
      have Hz2 := Lib.hid (Hz1.out.nxt hb)
      have HB2 := Lib.hid (below_nx HB1.out hb)
      clear hb
      clear x0 x1 x2 x3 x4 y0 y1 y2 y3 y4 z0 z1 z2 z3 z4
      obtain ⟨x0, x1, x2, x3, x4⟩ := cells5 Hx2.out
      obtain ⟨y0, y1, y2, y3, y4⟩ := cells5 Hy2.out
      obtain ⟨z0, z1, z2, z3, z4⟩ := cells5 Hz2.out
      go_wp2_with fail
      refine (HGz.out _).mono ?_
      rintro e w3 ⟨rfl, hb⟩
      have Hx3 := Lib.hid (Hx2.out.nxt hb)
      have Hy3 := Lib.hid (Hy2.out.nxt hb)
      have Hz3 := Lib.hid (Hz2.out.nxt hb)
      have HB3 := Lib.hid (below_nx HB2.out hb)
      clear hb
      clear x0 x1 x2 x3 x4 y0 y1 y2 y3 y4 z0 z1 z2 z3 z4
      obtain ⟨x0, x1, x2, x3, x4⟩ := cells5 Hx3.out
      obtain ⟨y0, y1, y2, y3, y4⟩ := cells5 Hy3.out
      obtain ⟨z0, z1, z2, z3, z4⟩ := cells5 Hz3.out
      go_wp2_with fail
      go_ret
      exact ⟨rfl, HB3.out⟩
    · rw [Bool.false_or, Bool.true_or]
      unfold mat at *
      go_enter Try.func7, Try.ntmps7
      have Hx0 := Lib.hid (((Blk.new w 25 #[.slice Ax nx cx, .int .i64 xo, .int .i64 xr, .int .i64 xk, .int .i64 xl]).alloc (.cells #[.slice Ay ny cy, .int .i64 yo, .int .i64 yr, .int .i64 yk, .int .i64 yl] 25)).alloc (.cells #[.slice Az nz cz, .int .i64 zo, .int .i64 zr, .int .i64 zk, .int .i64 zl] 25))
      have Hy0 := Lib.hid ((Blk.new_ (w.alloc (.cells #[.slice Ax nx cx, .int .i64 xo, .int .i64 xr, .int .i64 xk, .int .i64 xl] 25)) 25 #[.slice Ay ny cy, .int .i64 yo, .int .i64 yr, .int .i64 yk, .int .i64 yl] (w.heap.size + 1) (by simp)).alloc (.cells #[.slice Az nz cz, .int .i64 zo, .int .i64 zr, .int .i64 zk, .int .i64 zl] 25))
      have Hz0 := Lib.hid (Blk.new_ ((w.alloc (.cells #[.slice Ax nx cx, .int .i64 xo, .int .i64 xr, .int .i64 xk, .int .i64 xl] 25)).alloc (.cells #[.slice Ay ny cy, .int .i64 yo, .int .i64 yr, .int .i64 yk, .int .i64 yl] 25)) 25 #[.slice Az nz cz, .int .i64 zo, .int .i64 zr, .int .i64 zk, .int .i64 zl] (w.heap.size + 1 + 1) (by simp))
      have HB0 := Lib.hid ((((Below.refl w.heap.size w).alloc (Nat.le_refl _) (.cells #[.slice Ax nx cx, .int .i64 xo, .int .i64 xr, .int .i64 xk, .int .i64 xl] 25)).alloc (by simp) (.cells #[.slice Ay ny cy, .int .i64 yo, .int .i64 yr, .int .i64 yk, .int .i64 yl] 25)).alloc (by simp; omega) (.cells #[.slice Az nz cz, .int .i64 zo, .int .i64 zr, .int .i64 zk, .int .i64 zl] 25))
      obtain ⟨x0, x1, x2, x3, x4⟩ := cells5 Hx0.out
      obtain ⟨y0, y1, y2, y3, y4⟩ := cells5 Hy0.out
      obtain ⟨z0, z1, z2, z3, z4⟩ := cells5 Hz0.out
      go_wp2_with fail
      refine (HGx.out _).mono ?_
      rintro e w1 ⟨rfl, hb⟩
      have Hx1 := Lib.hid (Hx0.out.nxt hb)
      have Hy1 := Lib.hid (Hy0.out.nxt hb)
      have Hz1 := Lib.hid (Hz0.out.nxt hb)
      have HB1 := Lib.hid (below_nx HB0.out hb)
      clear hb
      clear x0 x1 x2 x3 x4 y0 y1 y2 y3 y4 z0 z1 z2 z3 z4
      obtain ⟨x0, x1, x2, x3, x4⟩ := cells5 Hx1.out
      obtain ⟨y0, y1, y2, y3, y4⟩ := cells5 Hy1.out
      obtain ⟨z0, z1, z2, z3, z4⟩ := cells5 Hz1.out
      go_wp2_with fail
      refine (HGy.out _).mono ?_
      rintro e w2 ⟨rfl, hb⟩
      have Hx2 := Lib.hid (Hx1.out.nxt hb)
      have Hy2 := Lib.hid (Hy1.out.nxt hb)
      have Hz2 := Lib.hid (Hz1.out.nxt hb)
      have HB2 := Lib.hid (below_nx HB1.out hb)
      clear hb
      clear x0 x1 x2 x3 x4 y0 y1 y2 y3 y4 z0 z1 z2 z3 z4
      obtain ⟨x0, x1, x2, x3, x4⟩ := cells5 Hx2.out
      obtain ⟨y0, y1, y2, y3, y4⟩ := cells5 Hy2.out
      obtain ⟨z0, z1, z2, z3, z4⟩ := cells5 Hz2.out
      go_wp2_with fail
      go_ret
      exact ⟨rfl, HB2.out⟩
  · rw [Bool.true_or, Bool.true_or]
    unfold mat at *
    go_enter Try.func7, Try.ntmps7
    have Hx0 := Lib.hid (((Blk.new w 25 #[.slice Ax nx cx, .int .i64 xo, .int .i64 xr, .int .i64 xk, .int .i64 xl]).alloc (.cells #[.slice Ay ny cy, .int .i64 yo, .int .i64 yr, .int .i64 yk, .int .i64 yl] 25)).alloc (.cells #[.slice Az nz cz, .int .i64 zo, .int .i64 zr, .int .i64 zk, .int .i64 zl] 25))
    have Hy0 := Lib.hid ((Blk.new_ (w.alloc (.cells #[.slice Ax nx cx, .int .i64 xo, .int .i64 xr, .int .i64 xk, .int .i64 xl] 25)) 25 #[.slice Ay ny cy, .int .i64 yo, .int .i64 yr, .int .i64 yk, .int .i64 yl] (w.heap.size + 1) (by simp)).alloc (.cells #[.slice Az nz cz, .int .i64 zo, .int .i64 zr, .int .i64 zk, .int .i64 zl] 25))
    have Hz0 := Lib.hid (Blk.new_ ((w.alloc (.cells #[.slice Ax nx cx, .int .i64 xo, .int .i64 xr, .int .i64 xk, .int .i64 xl] 25)).alloc (.cells #[.slice Ay ny cy, .int .i64 yo, .int .i64 yr, .int .i64 yk, .int .i64 yl] 25)) 25 #[.slice Az nz cz, .int .i64 zo, .int .i64 zr, .int .i64 zk, .int .i64 zl] (w.heap.size + 1 + 1) (by simp))
    have HB0 := Lib.hid ((((Below.refl w.heap.size w).alloc (Nat.le_refl _) (.cells #[.slice Ax nx cx, .int .i64 xo, .int .i64 xr, .int .i64 xk, .int .i64 xl] 25)).alloc (by simp) (.cells #[.slice Ay ny cy, .int .i64 yo, .int .i64 yr, .int .i64 yk, .int .i64 yl] 25)).alloc (by simp; omega) (.cells #[.slice Az nz cz, .int .i64 zo, .int .i64 zr, .int .i64 zk, .int .i64 zl] 25))
    obtain ⟨x0, x1, x2, x3, x4⟩ := cells5 Hx0.out
    obtain ⟨y0, y1, y2, y3, y4⟩ := cells5 Hy0.out
    obtain ⟨z0, z1, z2, z3, z4⟩ := cells5 Hz0.out
    go_wp2_with fail
    refine (HGx.out _).mono ?_
    rintro e w1 ⟨rfl, hb⟩
    have Hx1 := Lib.hid (Hx0.out.nxt hb)
    have Hy1 := Lib.hid (Hy0.out.nxt hb)
    have Hz1 := Lib.hid (Hz0.out.nxt hb)
    have HB1 := Lib.hid (below_nx HB0.out hb)
    clear hb
    clear x0 x1 x2 x3 x4 y0 y1 y2 y3 y4 z0 z1 z2 z3 z4
    obtain ⟨x0, x1, x2, x3, x4⟩ := cells5 Hx1.out
    obtain ⟨y0, y1, y2, y3, y4⟩ := cells5 Hy1.out
    obtain ⟨z0, z1, z2, z3, z4⟩ := cells5 Hz1.out
    go_wp2_with fail
    go_ret
    exact ⟨rfl, HB1.out⟩
theorem SmX.le_ {W : World} {g : Nat} {M : List Nat} {R C N : Nat} {Z : Nat → Nat → Int} {b b' : Nat} (h : SmX W g M R C N Z b) (hb : b ≤ b') : SmX W g M R C N Z b' := ⟨h.own, h.len, h.wds, h.sz, h.ex, fun i j => Nat.le_trans (h.le i j) hb⟩
/-- The closure's counter, and what changed since. -/
def GeKB (kb n : Nat) (w W : World) : Prop := ∃ k : Nat, k ≤ n ∧ Blk W kb 3 #[.int .i64 (k : Int)] ∧ Chg [kb] w W
/-- A matrix of small whole numbers, made behind z. -/
def XZ (W : World) (v : Value) (z R C N kb : Nat) : Prop := ∃ g M Z, v = .agg #[.slice (some ⟨g, 0, none⟩) N N, .int .i64 0, .int .i64 (R : Int), .int .i64 (C : Int), .int .i64 (R : Int)] ∧ SmX W g M R C N Z 50 ∧ z ≤ g ∧ kb < z
/-- A new box. -/
def NbK (W : World) (v : Value) (z kb : Nat) : Prop := ∃ p x0 x1 x2 x3 x4, v = .pointer (some ⟨p, 0, none⟩) ∧ Blk W p 25 #[x0, x1, x2, x3, x4] ∧ z ≤ p ∧ kb < z
/-- A box that holds such a matrix. -/
def PqK (W : World) (v : Value) (z R C N kb : Nat) : Prop := ∃ p g M Z, v = .pointer (some ⟨p, 0, none⟩) ∧ Blk W p 25 #[.slice (some ⟨g, 0, none⟩) N N, .int .i64 0, .int .i64 (R : Int), .int .i64 (C : Int), .int .i64 (R : Int)] ∧ SmX W g M R C N Z 50 ∧ z ≤ p ∧ z ≤ g ∧ kb < z
section
variable {w W W' : World} {v : Value} {z R C N kb n p : Nat} {t : TypeId} {cs : Array Value}
theorem GeKB.start {k : Nat} (hB : Blk w kb 3 #[.int .i64 (k : Int)]) (hk : k ≤ n) : GeKB kb n w w := ⟨k, hk, hB, Chg.refl _ _⟩
theorem GeKB.drew (h : GeKB kb n w W) : GeKB kb n w W.drew := by
  obtain ⟨k, h1, h2, h3⟩ := h; exact ⟨k, h1, h2, h3.drew⟩
theorem GeKB.chg (h : GeKB kb n w W) : Chg [kb] w W := by
  obtain ⟨k, h1, h2, h3⟩ := h; exact h3
theorem GeKB.call {k : Nat} (h : GeKB kb n w W) (hB : Blk W' kb 3 #[.int .i64 (k : Int)]) (hk : k ≤ n) (hc : Chg [kb] W W') : GeKB kb n w W' := ⟨k, hk, hB, h.chg.trans hc⟩
theorem GeKB.nxt (h : GeKB kb n w W) (hb : Below W.heap.size W W') : GeKB kb n w W' := by
  obtain ⟨k, h1, h2, h3⟩ := h; exact ⟨k, h1, h2.nxt hb, h3.nxt hb⟩
theorem GeKB.far5 (h : GeKB kb n w W) (hz : w.heap.size ≤ p) (hk : kb < w.heap.size) (x0 x1 x2 x3 x4 : Value) : GeKB kb n w (((((W.setCell ⟨p, 0, none⟩ x0).setCell ⟨p, 1, none⟩ x1).setCell ⟨p, 2, none⟩ x2).setCell ⟨p, 3, none⟩ x3).setCell ⟨p, 4, none⟩ x4) := by
  obtain ⟨k, h1, h2, h3⟩ := h
  exact ⟨k, h1, (heap_sets5 (w := W) (show kb ≠ p by omega) x0 x1 x2 x3 x4).trans h2, chg_sets5 h3 hz x0 x1 x2 x3 x4⟩
theorem XZ.below (h : XZ W v z R C N kb) (hc : Chg [kb] W W') : XZ W' v z R C N kb := by
  obtain ⟨g, M, Z, h1, h2, h3, h4⟩ := h; exact ⟨g, M, Z, h1, h2.own_ (hc.own (by simp; omega) h2.own), h3, h4⟩
theorem XZ.far (h : XZ W v z R C N kb) (hB : Blk W p t cs) (ht : t ≠ 22) (hb : ∀ k, k ≠ p → W'.heap[k]? = W.heap[k]?) : XZ W' v z R C N kb := by
  obtain ⟨g, M, Z, h1, h2, h3, h4⟩ := h; exact ⟨g, M, Z, h1, h2.own_ (own_offe h2.own (own_ne h2.own hB ht) hb), h3, h4⟩
theorem NbK.below (h : NbK W v z kb) (hc : Chg [kb] W W') : NbK W' v z kb := by
  obtain ⟨p, x0, x1, x2, x3, x4, h1, h2, h3, h4⟩ := h; exact ⟨p, x0, x1, x2, x3, x4, h1, hc.blk (by simp; omega) h2, h3, h4⟩
theorem NbK.far (h : NbK W v z kb) (hne : v ≠ .pointer (some ⟨p, 0, none⟩)) (hb : ∀ k, k ≠ p → W'.heap[k]? = W.heap[k]?) : NbK W' v z kb := by
  obtain ⟨q, x0, x1, x2, x3, x4, h1, h2, h3, h4⟩ := h; exact ⟨q, x0, x1, x2, x3, x4, h1, (hb q (fun e => hne (by rw [h1, e]))).trans h2, h3, h4⟩
theorem NbK.new_ne (h : NbK W v z kb) : v ≠ .pointer (some ⟨W.heap.size, 0, none⟩) := by
  obtain ⟨q, x0, x1, x2, x3, x4, h1, h2, h3, h4⟩ := h
  intro e
  rw [h1] at e
  injection e with e; injection e with e; injection e with e
  have := h2.lt
  omega
theorem PqK.below (h : PqK W v z R C N kb) (hc : Chg [kb] W W') : PqK W' v z R C N kb := by
  obtain ⟨p, g, M, Z, h1, h2, h3, h4, h5, h6⟩ := h; exact ⟨p, g, M, Z, h1, hc.blk (by simp; omega) h2, h3.own_ (hc.own (by simp; omega) h3.own), h4, h5, h6⟩
theorem PqK.far (h : PqK W v z R C N kb) (hB : Blk W p t cs) (ht : t ≠ 22) (hne : v ≠ .pointer (some ⟨p, 0, none⟩)) (hb : ∀ k, k ≠ p → W'.heap[k]? = W.heap[k]?) : PqK W' v z R C N kb := by
  obtain ⟨q, g, M, Z, h1, h2, h3, h4, h5, h6⟩ := h; exact ⟨q, g, M, Z, h1, (hb q (fun e => hne (by rw [h1, e]))).trans h2, h3.own_ (own_offe h3.own (own_ne h3.own hB ht) hb), h4, h5, h6⟩
end
/-- A table of whole numbers, the document's. -/
def TzR (W : World) (v : Value) (R C N : Nat) (Z : Nat → Nat → Int) : Prop := ∃ g T, v = .agg #[.int .i64 (R : Int), .int .i64 (C : Int), .slice (some ⟨g, 0, none⟩) N N] ∧ TbZ R C N Z T ∧ Row W (some ⟨g, 0, none⟩) (f64s T)
def TzO (W : World) (v : Value) (R C N : Nat) (Z : Nat → Nat → Int) : Prop := ∃ g T, v = .agg #[.int .i64 (R : Int), .int .i64 (C : Int), .slice (some ⟨g, 0, none⟩) N N] ∧ TbZ R C N Z T ∧ Own W g T
def Nb3 (W : World) (v : Value) (z : Nat) : Prop := ∃ p x0 x1 x2, v = .pointer (some ⟨p, 0, none⟩) ∧ Blk W p 35 #[x0, x1, x2] ∧ z ≤ p
def Pq3 (W : World) (v : Value) (z R C N : Nat) (Z : Nat → Nat → Int) : Prop := ∃ p g T, v = .pointer (some ⟨p, 0, none⟩) ∧ Blk W p 35 #[.int .i64 (R : Int), .int .i64 (C : Int), .slice (some ⟨g, 0, none⟩) N N] ∧ TbZ R C N Z T ∧ Own W g T ∧ z ≤ p
section
variable {w W W' : World} {v : Value} {z R C N p : Nat} {Z : Nat → Nat → Int} {t : TypeId} {cs : Array Value}
theorem TzR.below (h : TzR W v R C N Z) (hb : Below W.heap.size W W') : TzR W' v R C N Z := by
  obtain ⟨g, T, h1, h2, h3⟩ := h; exact ⟨g, T, h1, h2, Row.below h3 hb⟩
theorem TzO.below (h : TzO W v R C N Z) (hb : Below W.heap.size W W') : TzO W' v R C N Z := by
  obtain ⟨g, T, h1, h2, h3⟩ := h; exact ⟨g, T, h1, h2, h3.nxt hb⟩
theorem TzO.far (h : TzO W v R C N Z) (hB : Blk W p t cs) (ht : t ≠ 22) (hb : ∀ k, k ≠ p → W'.heap[k]? = W.heap[k]?) : TzO W' v R C N Z := by
  obtain ⟨g, T, h1, h2, h3⟩ := h; exact ⟨g, T, h1, h2, own_offe h3 (own_ne h3 hB ht) hb⟩
theorem TzO.row (h : TzO W v R C N Z) : TzR W v R C N Z := by
  obtain ⟨g, T, h1, h2, h3⟩ := h; exact ⟨g, T, h1, h2, h3.row⟩
theorem Nb3.below (h : Nb3 W v z) (hb : Below W.heap.size W W') : Nb3 W' v z := by
  obtain ⟨p, x0, x1, x2, h1, h2, h3⟩ := h; exact ⟨p, x0, x1, x2, h1, h2.nxt hb, h3⟩
theorem Nb3.far (h : Nb3 W v z) (hne : v ≠ .pointer (some ⟨p, 0, none⟩)) (hb : ∀ k, k ≠ p → W'.heap[k]? = W.heap[k]?) : Nb3 W' v z := by
  obtain ⟨q, x0, x1, x2, h1, h2, h3⟩ := h; exact ⟨q, x0, x1, x2, h1, (hb q (fun e => hne (by rw [h1, e]))).trans h2, h3⟩
theorem Nb3.new_ne (h : Nb3 W v z) : v ≠ .pointer (some ⟨W.heap.size, 0, none⟩) := by
  obtain ⟨q, x0, x1, x2, h1, h2, h3⟩ := h
  intro e
  rw [h1] at e
  injection e with e; injection e with e; injection e with e
  have := h2.lt
  omega
theorem Pq3.below (h : Pq3 W v z R C N Z) (hb : Below W.heap.size W W') : Pq3 W' v z R C N Z := by
  obtain ⟨p, g, T, h1, h2, h3, h4, h5⟩ := h; exact ⟨p, g, T, h1, h2.nxt hb, h3, h4.nxt hb, h5⟩
theorem Pq3.far (h : Pq3 W v z R C N Z) (hB : Blk W p t cs) (ht : t ≠ 22) (hne : v ≠ .pointer (some ⟨p, 0, none⟩)) (hb : ∀ k, k ≠ p → W'.heap[k]? = W.heap[k]?) : Pq3 W' v z R C N Z := by
  obtain ⟨q, g, T, h1, h2, h3, h4, h5⟩ := h; exact ⟨q, g, T, h1, (hb q (fun e => hne (by rw [h1, e]))).trans h2, h3, own_offe h4 (own_ne h4 hB ht) hb, h5⟩
theorem belowk (h : Below z w W) (hz : z ≤ p) (x0 x1 x2 : Value) : Below z w (((W.setCell ⟨p, 0, none⟩ x0).setCell ⟨p, 1, none⟩ x1).setCell ⟨p, 2, none⟩ x2) := below3g h hz x0 x1 x2
end
/-- Two matrices in a list. -/
def Bs2 (W : World) (v : Value) (R K C NX NY : Nat) (X Y : Nat → Nat → Int) (b : Nat) : Prop := ∃ bb gx gy Mx My, v = .slice (some ⟨bb, 0, none⟩) 2 2 ∧ Blk W bb 25 (two5 gx NX gy NY R K C) ∧ SmX W gx Mx R K NX X b ∧ SmX W gy My K C NY Y b
theorem Bs2.below {W W' : World} {v : Value} {R K C NX NY b : Nat} {X Y : Nat → Nat → Int} (h : Bs2 W v R K C NX NY X Y b) (hb : Below W.heap.size W W') : Bs2 W' v R K C NX NY X Y b := by
  obtain ⟨bb, gx, gy, Mx, My, h1, h2, h3, h4⟩ := h; exact ⟨bb, gx, gy, Mx, My, h1, h2.nxt hb, h3.nxt hb, h4.nxt hb⟩
/-- A product has been stored. -/
def St22 (w W : World) (v : Value) (R C N : Nat) (Z : Nat → Nat → Int) (b : Nat) : Prop := ∃ p g M, v = .pointer (some ⟨p, 0, none⟩) ∧ Blk W p 25 #[.slice (some ⟨g, 0, none⟩) N N, .int .i64 0, .int .i64 (R : Int), .int .i64 (C : Int), .int .i64 (R : Int)] ∧ SmX W g M R C N Z b ∧ Below w.heap.size w W
/-- The four sizes, each of a byte. -/
theorem ge_int {z n : Nat} (hz : z < 256) (hn : 1 + z % 6 = n) : ∃ s : Nat, Hid (Int.tmod (z : Int) 6 = (s : Int) ∧ (1 : Int) + (s : Int) = (n : Int) ∧ (wrap64 (s : Int) = (s : Int) ∧ IntKind.i64.wrap (s : Int) = (s : Int)) ∧ (wrap64 (n : Int) = (n : Int) ∧ IntKind.i64.wrap (n : Int) = (n : Int)) ∧ (wrap64 (z : Int) = (z : Int) ∧ IntKind.i64.wrap (z : Int) = (z : Int))) ∧ 1 ≤ n ∧ n ≤ 6 := by
  have h1 : z % 6 < 6 := Nat.mod_lt _ (by omega)
  exact ⟨z % 6, Lib.hid ⟨by rw [Int.tmod_eq_emod_of_nonneg (by omega)]; omega, by omega, wr2 (by omega), wr2 (by omega), wr2 (by omega)⟩, by omega, by omega⟩
/-- The closure's calls. -/
theorem gemk_any (R C N kb lb : Nat) (A : Option Addr) (n cc : Nat) (l : List Int) (w wr W : World) (hG : GeKB kb n wr W) (hB : Below w.heap.size w wr) (hkb : w.heap.size ≤ kb) (hne : lb ≠ kb) (hlb : Blk wr lb 45 #[.slice A n cc]) (hA : Row w A (i8s l)) (hl : l.length = n) (hn : n < 9223372036854775808) (hI : ∀ z ∈ l, I8 z) (hN : R * C = N) (hR : 1 ≤ R ∧ R ≤ 6) (hC : 1 ≤ C ∧ C ≤ 6) :
    Calls Try.prog 19 #[.int .i64 (R : Int), .int .i64 (C : Int), .pointer (some ⟨kb, 0, none⟩), .pointer (some ⟨lb, 0, none⟩)] W (Made1 R C N kb n W) := by
  obtain ⟨k, hk, h1, h2⟩ := hG
  exact gemake_any R C N kb lb A n cc l k W h1 hk (h2.blk (by simp; exact hne) hlb) (Row.below hA (h2.below hB hB.size (fun x hx => by simp at hx; omega))) hl hn hI hN hR hC
theorem gegood_any {g R C N : Nat} {M : List Nat} {Z : Nat → Nat → Int} {b : Nat} {W0 : World} (h : SmX W0 g M R C N Z b) (hR : 1 ≤ R ∧ R ≤ 6) (hC : 1 ≤ C ∧ C ≤ 6) (W : World) :
    Calls Try.prog 16 #[.agg #[.slice (some ⟨g, 0, none⟩) N N, .int .i64 0, .int .i64 (R : Int), .int .i64 (C : Int), .int .i64 (R : Int)]] W fun e w' => e = .returned (.bool true) ∧ Below W.heap.size W w' := by
  have hN := small_le h.sz hR.2 hC.2
  have := rgood_any (some ⟨g, 0, none⟩) N N 0 R C R W (by omega) (by unfold I64; omega) (by unfold I64; omega) (by unfold I64; omega) (by unfold I64; omega)
  rw [show matB N 0 (R : Int) (C : Int) (R : Int) = true from mat_right (o := 0) hR.1 (Nat.le_refl _) (small_room h.sz hR.1)] at this
  exact this
theorem small_great {R C N : Nat} (hN : R * C = N) (hR : 1 ≤ R ∧ R ≤ 6) (hC : 1 ≤ C ∧ C ≤ 6) : greatB N (R : Int) (C : Int) = false := by
  have h := small_le hN hR.2 hC.2
  unfold greatB
  simp
  omega
theorem gegreat_any (g R C N : Nat) (hN : R * C = N) (hR : 1 ≤ R ∧ R ≤ 6) (hC : 1 ≤ C ∧ C ≤ 6) (W : World) :
    Calls Try.prog 15 #[.agg #[.slice (some ⟨g, 0, none⟩) N N, .int .i64 0, .int .i64 (R : Int), .int .i64 (C : Int), .int .i64 (R : Int)]] W fun e w' => e = .returned (.bool false) ∧ Below W.heap.size W w' := by
  have := great_any (some ⟨g, 0, none⟩) N N 0 R C R W
  rw [small_great hN hR hC] at this
  exact this
theorem gegreat3_any (g1 R1 C1 N1 g2 R2 C2 N2 g3 R3 C3 N3 : Nat) (h1 : R1 * C1 = N1) (h2 : R2 * C2 = N2) (h3 : R3 * C3 = N3) (r1 : 1 ≤ R1 ∧ R1 ≤ 6) (c1 : 1 ≤ C1 ∧ C1 ≤ 6) (r2 : 1 ≤ R2 ∧ R2 ≤ 6) (c2 : 1 ≤ C2 ∧ C2 ≤ 6) (r3 : 1 ≤ R3 ∧ R3 ≤ 6) (c3 : 1 ≤ C3 ∧ C3 ≤ 6) (W : World) :
    Calls Try.prog 7 #[.agg #[.slice (some ⟨g1, 0, none⟩) N1 N1, .int .i64 0, .int .i64 (R1 : Int), .int .i64 (C1 : Int), .int .i64 (R1 : Int)], .agg #[.slice (some ⟨g2, 0, none⟩) N2 N2, .int .i64 0, .int .i64 (R2 : Int), .int .i64 (C2 : Int), .int .i64 (R2 : Int)], .agg #[.slice (some ⟨g3, 0, none⟩) N3 N3, .int .i64 0, .int .i64 (R3 : Int), .int .i64 (C3 : Int), .int .i64 (R3 : Int)]] W fun e w' => e = .returned (.bool false) ∧ Below W.heap.size W w' := by
  have := ggreat_any (some ⟨g1, 0, none⟩) N1 N1 0 R1 C1 R1 (some ⟨g2, 0, none⟩) N2 N2 0 R2 C2 R2 (some ⟨g3, 0, none⟩) N3 N3 0 R3 C3 R3 W
  rw [small_great h1 r1 c1, small_great h2 r2 c2, small_great h3 r3 c3] at this
  exact this
theorem geprod_any (gx gy : Nat) (Mx My : List Nat) (R K C NX NY N : Nat) (X Y : Nat → Nat → Int) (a b B bb : Nat) (W : World) (hB : Blk W bb 25 (two5 gx NX gy NY R K C)) (hX : SmX W gx Mx R K NX X a) (hY : SmX W gy My K C NY Y b) (hR : 1 ≤ R ∧ R ≤ 6) (hK : 1 ≤ K ∧ K ≤ 6) (hC : 1 ≤ C ∧ C ≤ 6) (hN : R * C = N) (hab : 7 * (a * b) < 9007199254740992) (hb : b < 9007199254740992) (hBB : 6 * (a * b) ≤ B) :
    Calls Try.prog 17 #[.slice (some ⟨bb, 0, none⟩) 2 2] W fun e w' => ∃ g M, e = .returned (.tuple #[.agg #[.slice (some ⟨g, 0, none⟩) N N, .int .i64 0, .int .i64 (R : Int), .int .i64 (C : Int), .int .i64 (R : Int)], .int .i64 0]) ∧ SmX w' g M R C N (mulZ X Y K) B ∧ W.heap.size ≤ g ∧ Below W.heap.size W w' :=
  (geprod2_any gx gy Mx My R K C NX NY N X Y a b bb W hB hX hY hR hK hC hN hab hb).mono fun e w' ⟨g, M, k1, k2, k3, k4⟩ => ⟨g, M, k1, k2.le_ (Nat.le_trans (Nat.mul_le_mul_right _ hK.2) hBB), k3, k4⟩
theorem gesamez_any (A B : Option Addr) (R C N c dd : Nat) (x y : List Nat) (Z Z' : Nat → Nat → Int) (w : World) (hA : Row w A (f64s x)) (hB : Row w B (f64s y)) (hx : TbZ R C N Z x) (hy : TbZ R C N Z' y) (hZ : ∀ i j, Z i j = Z' i j) (hN : R * C = N) (hR : 1 ≤ R ∧ R ≤ 6) (hC : 1 ≤ C ∧ C ≤ 6) :
    Calls Try.prog 23 #[.slice A N c, .slice B N dd] w fun e w' => e = .returned (.bool true) ∧ Below w.heap.size w w' := by
  have hN2 := small_le hN hR.2 hC.2
  refine gesame_any A B N c dd x y w hA hB hx.1 hy.1 (by omega) (fun i hi => ?_)
  have hi2 : i < R * C := by omega
  have e2 : i = i / C * C + i % C := by rw [Nat.mul_comm]; exact (Nat.div_add_mod i C).symm
  have h1 : i / C < R := Nat.div_lt_of_lt_mul (by rw [Nat.mul_comm]; exact hi2)
  have h2 : i % C < C := Nat.mod_lt i (by omega)
  have p := hx.2.2 _ h1 _ h2
  have q := hy.2.2 _ h1 _ h2
  rw [← e2] at p q
  rw [← hZ] at q
  exact turns_eqe p q
theorem geequal2_any (gx gy R C N : Nat) (Mx My : List Nat) (Z Z' : Nat → Nat → Int) (b b' : Nat) (W : World) (hX : SmX W gx Mx R C N Z b) (hY : SmX W gy My R C N Z' b') (hZ : ∀ i j, Z i j = Z' i j) (hR : 1 ≤ R ∧ R ≤ 6) (hC : 1 ≤ C ∧ C ≤ 6) :
    Calls Try.prog 22 #[.agg #[.slice (some ⟨gx, 0, none⟩) N N, .int .i64 0, .int .i64 (R : Int), .int .i64 (C : Int), .int .i64 (R : Int)], .agg #[.slice (some ⟨gy, 0, none⟩) N N, .int .i64 0, .int .i64 (R : Int), .int .i64 (C : Int), .int .i64 (R : Int)]] W fun e w' => e = .returned (.bool true) ∧ Below W.heap.size W w' :=
  geequal_any gx gy R C N Mx My Z W hX.own.row hY.own.row hX.len hY.len hX.sz hR.1 hR.2 hC.2 hX.ex (fun i hi j hj => by rw [hZ]; exact hY.ex i hi j hj)
end Go.Proofs.Ytbbgldelebgnfaa
/-
A list of two matrices is built. Conditions: none.
-/
set_option linter.unusedVariables false
set_option linter.unusedSimpArgs false
set_option linter.unnecessarySimpa false
namespace Go.Proofs.Ytbbgldelebgnfaa
open Go.RowKit
attribute [local go_sem ↓] Go.wp_at_zero Go.wp_at_succ

theorem op_makesG {P : Program} {o : Oper} {ev : Operand → Value} {w : World} {K : Value → World → Prop} (v : Value) (w' : World) (h : (execOp ev o).run P w = .ok (.value v) w') (hk : K v w') : OpSteps P o ev w K := by
  unfold OpSteps; rw [h]; exact hk
theorem run_build2 (a0 a1 a2 a3 a4 b0 b1 b2 b3 b4 : Value) (w : World) : (Instr.buildSlice 39 2 #[(0, .agg #[a0, a1, a2, a3, a4]), (1, .agg #[b0, b1, b2, b3, b4])]).run Try.prog w = .ok (.slice (some ⟨w.heap.size, 0, none⟩) 2 2) (w.alloc (.cells #[a0, a1, a2, a3, a4, b0, b1, b2, b3, b4] 25)) := by kernel_rfl
theorem runb2 {ev : Operand → Value} {o : Oper} {x y : Operand} (h : o.op = .buildSlice 39 2 #[(0, x), (1, y)]) {a0 a1 a2 a3 a4 b0 b1 b2 b3 b4 : Value} (hx : ev x = .agg #[a0, a1, a2, a3, a4]) (hy : ev y = .agg #[b0, b1, b2, b3, b4]) (w : World) :
    (execOp ev o).run Try.prog w = .ok (.value (.slice (some ⟨w.heap.size, 0, none⟩) 2 2)) (w.alloc (.cells #[a0, a1, a2, a3, a4, b0, b1, b2, b3, b4] 25)) := by
  unfold execOp
  rw [h]
  have e : (#[(0, x), (1, y)].map fun (p : Nat × Operand) => (p.1, ev p.2)) = #[(0, .agg #[a0, a1, a2, a3, a4]), (1, .agg #[b0, b1, b2, b3, b4])] := by simp [hx, hy]
  have r := run_build2 a0 a1 a2 a3 a4 b0 b1 b2 b3 b4 w
  rw [← e] at r
  show Sem.run Try.prog ((Instr.buildSlice 39 2 (Array.map (fun (p : Nat × Operand) => (p.1, ev p.2)) #[(0, x), (1, y)])) >>= fun z => pure (Next.value z)) w = _
  first
    | (rw [Sem.run_bind, r]; rfl)
    | (simp [r]; done)
end Go.Proofs.Ytbbgldelebgnfaa
