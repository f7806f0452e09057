/-
Ger: the program's Shift, Turn and Eye. Conditions: as each says.
-/
import Derived.Test.YtmjaakngiilmdaaGu
import Derived.Test.YtmjaakngiilmdaaGt
import Derived.Test.YtmjaakngiilmdaaGsa
set_option linter.unusedVariables false
set_option linter.unusedSimpArgs false
set_option linter.unnecessarySimpa false
namespace Go.Proofs.Ytmjaakngiilmdaa
open Go.RowKit
attribute [local go_sem ↓] Go.wp_at_zero Go.wp_at_succ

theorem blk5 {W : World} {b p : Nat} {t : TypeId} {cs : Array Value} (h : Blk W b t cs) (hne : b ≠ p) (x0 x1 x2 x3 x4 : Value) : Blk (((((W.setCell ⟨p, 0, none⟩ x0).setCell ⟨p, 1, none⟩ x1).setCell ⟨p, 2, none⟩ x2).setCell ⟨p, 3, none⟩ x3).setCell ⟨p, 4, none⟩ x4) b t cs := (heap_sets5 hne x0 x1 x2 x3 x4).trans h
theorem own5 {W : World} {b p : Nat} {l : List Nat} (h : Own W b l) (hne : b ≠ p) (x0 x1 x2 x3 x4 : Value) : Own (((((W.setCell ⟨p, 0, none⟩ x0).setCell ⟨p, 1, none⟩ x1).setCell ⟨p, 2, none⟩ x2).setCell ⟨p, 3, none⟩ x3).setCell ⟨p, 4, none⟩ x4) b l := by
  obtain ⟨cs, h1, h2⟩ := h
  exact ⟨cs, blk5 h1 hne _ _ _ _ _, h2⟩
theorem below5 {z : Nat} {w W : World} (h : Below z w W) {p : Nat} (hz : z ≤ p) (x0 x1 x2 x3 x4 : Value) : Below z w (((((W.setCell ⟨p, 0, none⟩ x0).setCell ⟨p, 1, none⟩ x1).setCell ⟨p, 2, none⟩ x2).setCell ⟨p, 3, none⟩ x3).setCell ⟨p, 4, none⟩ x4) :=
  (((((h.setCell (p := ⟨p, 0, none⟩) hz x0).setCell (p := ⟨p, 1, none⟩) hz x1).setCell (p := ⟨p, 2, none⟩) hz x2).setCell (p := ⟨p, 3, none⟩) hz x3).setCell (p := ⟨p, 4, none⟩) hz x4)
set_option maxHeartbeats 2000000 in
theorem grshift_bad (Am : Option Addr) (nm cm : Nat) (mo mr mk ml : Int) (B : Option Addr) (rn rc : Nat) (D : Option Addr) (cn cc : Nat) (w : World) (hnm : nm < 9223372036854775808) (hmo : I64 mo) (hmr : I64 mr) (hmk : I64 mk) (hml : I64 ml) (h : matB nm mo mr mk ml = false) :
    Calls Try.prog 28 #[mat Am nm cm mo mr mk ml, .slice B rn rc, .slice D cn cc] w fun e w' => e = .returned (.int .i64 1) ∧ Below w.heap.size w w' := by
  have HG := Lib.hid (fun W => good_any Am nm cm mo mr mk ml W hnm hmo hmr hmk hml)
  rw [h] at HG
  clear hnm hmo hmr hmk hml h
  unfold mat at *
  go_enter Try.func28, Try.ntmps28
  have Hm0 := Lib.hid (((Blk.new w 26 #[.slice Am nm cm, .int .i64 mo, .int .i64 mr, .int .i64 mk, .int .i64 ml]).alloc (.cells #[.slice B rn rc] 53)).alloc (.cells #[.slice D cn cc] 53))
  have Hr0 := Lib.hid ((Blk.new_ (w.alloc (.cells #[.slice Am nm cm, .int .i64 mo, .int .i64 mr, .int .i64 mk, .int .i64 ml] 26)) 53 #[.slice B rn rc] (w.heap.size + 1) (by simp)).alloc (.cells #[.slice D cn cc] 53))
  have Hq0 := Lib.hid (Blk.new_ ((w.alloc (.cells #[.slice Am nm cm, .int .i64 mo, .int .i64 mr, .int .i64 mk, .int .i64 ml] 26)).alloc (.cells #[.slice B rn rc] 53)) 53 #[.slice D cn cc] (w.heap.size + 1 + 1) (by simp))
  have HB0 := Lib.hid ((((Below.refl w.heap.size w).alloc (Nat.le_refl _) (.cells #[.slice Am nm cm, .int .i64 mo, .int .i64 mr, .int .i64 mk, .int .i64 ml] 26)).alloc (by simp) (.cells #[.slice B rn rc] 53)).alloc (by simp; omega) (.cells #[.slice D cn cc] 53))
  obtain ⟨m0, m1, m2, m3, m4⟩ := cells5 Hm0.out
  obtain ⟨r0, _⟩ := cells1g Hr0.out
  obtain ⟨q0, _⟩ := cells1g Hq0.out
  go_wp2_with fail
  refine (HG.out _).mono ?_
  rintro e w1 ⟨rfl, hb⟩
  have Hm1 := Lib.hid (Hm0.out.nxt hb)
  have Hr1 := Lib.hid (Hr0.out.nxt hb)
  have Hq1 := Lib.hid (Hq0.out.nxt hb)
  have HB1 := Lib.hid (below_nx HB0.out hb)
  clear hb
  clear m0 m1 m2 m3 m4 r0 q0
  obtain ⟨m0, m1, m2, m3, m4⟩ := cells5 Hm1.out
  obtain ⟨r0, _⟩ := cells1g Hr1.out
  obtain ⟨q0, _⟩ := cells1g Hq1.out
  go_wp2_with fail
  go_ret
  exact ⟨rfl, HB1.out⟩

set_option maxHeartbeats 2000000 in
theorem grshift_size (Am : Option Addr) (nm cm : Nat) (mo mr mk ml : Int) (B : Option Addr) (rn rc : Nat) (D : Option Addr) (cn cc : Nat) (w : World) (hnm : nm < 9223372036854775808) (hmo : I64 mo) (hmr : I64 mr) (hmk : I64 mk) (hml : I64 ml) (h : matB nm mo mr mk ml = true) (hs : ¬ ((rn : Int) = mr ∧ (cn : Int) = mk)) :
    Calls Try.prog 28 #[mat Am nm cm mo mr mk ml, .slice B rn rc, .slice D cn cc] w fun e w' => e = .returned (.int .i64 3) ∧ Below w.heap.size w w' := by
  have HG := Lib.hid (fun W => good_any Am nm cm mo mr mk ml W hnm hmo hmr hmk hml)
  rw [h] at HG
  clear hnm hmo hmr hmk hml h
  by_cases e1 : (rn : Int) = mr
  · have t1 : ((rn : Int) == mr) = true := by simp [e1]
    have t1' : ((rn : Int) != mr) = false := by simp [e1]
    have e2 : ¬ (cn : Int) = mk := fun e => hs ⟨e1, e⟩
    have t2 : ((cn : Int) == mk) = false := by simp [e2]
    have t2' : ((cn : Int) != mk) = true := by simp [e2]
    clear e1 e2 hs
    unfold mat at *
    go_enter Try.func28, Try.ntmps28
    have Hm0 := Lib.hid (((Blk.new w 26 #[.slice Am nm cm, .int .i64 mo, .int .i64 mr, .int .i64 mk, .int .i64 ml]).alloc (.cells #[.slice B rn rc] 53)).alloc (.cells #[.slice D cn cc] 53))
    have Hr0 := Lib.hid ((Blk.new_ (w.alloc (.cells #[.slice Am nm cm, .int .i64 mo, .int .i64 mr, .int .i64 mk, .int .i64 ml] 26)) 53 #[.slice B rn rc] (w.heap.size + 1) (by simp)).alloc (.cells #[.slice D cn cc] 53))
    have Hq0 := Lib.hid (Blk.new_ ((w.alloc (.cells #[.slice Am nm cm, .int .i64 mo, .int .i64 mr, .int .i64 mk, .int .i64 ml] 26)).alloc (.cells #[.slice B rn rc] 53)) 53 #[.slice D cn cc] (w.heap.size + 1 + 1) (by simp))
    have HB0 := Lib.hid ((((Below.refl w.heap.size w).alloc (Nat.le_refl _) (.cells #[.slice Am nm cm, .int .i64 mo, .int .i64 mr, .int .i64 mk, .int .i64 ml] 26)).alloc (by simp) (.cells #[.slice B rn rc] 53)).alloc (by simp; omega) (.cells #[.slice D cn cc] 53))
    obtain ⟨m0, m1, m2, m3, m4⟩ := cells5 Hm0.out
    obtain ⟨r0, _⟩ := cells1g Hr0.out
    obtain ⟨q0, _⟩ := cells1g Hq0.out
    go_wp2_with fail
    refine (HG.out _).mono ?_
    rintro e w1 ⟨rfl, hb⟩
    have Hm1 := Lib.hid (Hm0.out.nxt hb)
    have Hr1 := Lib.hid (Hr0.out.nxt hb)
    have Hq1 := Lib.hid (Hq0.out.nxt hb)
    have HB1 := Lib.hid (below_nx HB0.out hb)
    clear hb
    clear m0 m1 m2 m3 m4 r0 q0
    obtain ⟨m0, m1, m2, m3, m4⟩ := cells5 Hm1.out
    obtain ⟨r0, _⟩ := cells1g Hr1.out
    obtain ⟨q0, _⟩ := cells1g Hq1.out
    go_wp2_with fail
    go_ret
    exact ⟨rfl, HB1.out⟩
  · have t1 : ((rn : Int) == mr) = false := by simp [e1]
    have t1' : ((rn : Int) != mr) = true := by simp [e1]
    clear e1 hs
    unfold mat at *
    go_enter Try.func28, Try.ntmps28
    have Hm0 := Lib.hid (((Blk.new w 26 #[.slice Am nm cm, .int .i64 mo, .int .i64 mr, .int .i64 mk, .int .i64 ml]).alloc (.cells #[.slice B rn rc] 53)).alloc (.cells #[.slice D cn cc] 53))
    have Hr0 := Lib.hid ((Blk.new_ (w.alloc (.cells #[.slice Am nm cm, .int .i64 mo, .int .i64 mr, .int .i64 mk, .int .i64 ml] 26)) 53 #[.slice B rn rc] (w.heap.size + 1) (by simp)).alloc (.cells #[.slice D cn cc] 53))
    have Hq0 := Lib.hid (Blk.new_ ((w.alloc (.cells #[.slice Am nm cm, .int .i64 mo, .int .i64 mr, .int .i64 mk, .int .i64 ml] 26)).alloc (.cells #[.slice B rn rc] 53)) 53 #[.slice D cn cc] (w.heap.size + 1 + 1) (by simp))
    have HB0 := Lib.hid ((((Below.refl w.heap.size w).alloc (Nat.le_refl _) (.cells #[.slice Am nm cm, .int .i64 mo, .int .i64 mr, .int .i64 mk, .int .i64 ml] 26)).alloc (by simp) (.cells #[.slice B rn rc] 53)).alloc (by simp; omega) (.cells #[.slice D cn cc] 53))
    obtain ⟨m0, m1, m2, m3, m4⟩ := cells5 Hm0.out
    obtain ⟨r0, _⟩ := cells1g Hr0.out
    obtain ⟨q0, _⟩ := cells1g Hq0.out
    go_wp2_with fail
    refine (HG.out _).mono ?_
    rintro e w1 ⟨rfl, hb⟩
    have Hm1 := Lib.hid (Hm0.out.nxt hb)
    have Hr1 := Lib.hid (Hr0.out.nxt hb)
    have Hq1 := Lib.hid (Hq0.out.nxt hb)
    have HB1 := Lib.hid (below_nx HB0.out hb)
    clear hb
    clear m0 m1 m2 m3 m4 r0 q0
    obtain ⟨m0, m1, m2, m3, m4⟩ := cells5 Hm1.out
    obtain ⟨r0, _⟩ := cells1g Hr1.out
    obtain ⟨q0, _⟩ := cells1g Hq1.out
    go_wp2_with fail
    go_ret
    exact ⟨rfl, HB1.out⟩

/-- What Shift makes of a number. -/
def ShfR (zr zc : List Int) (l : List Nat) (o L : Nat) (i j r : Nat) : Prop := r = Fl.scale (l.getD (o + i + j * L) 0) (shfE (zr.getD i 0) (zc.getD j 0))
theorem int_get {W : World} {B : Option Addr} {zs : List Int} {K i : Nat} (h : Row W B (i64s zs)) (hz : zs.length = K) (hi : i < K) : ∃ b y, B = some ⟨b, y, none⟩ ∧ W.cell? ⟨b, y + i, none⟩ = some (.int .i64 (zs.getD i 0)) := by
  have hl : i < zs.length := by omega
  obtain ⟨b, y, e, _, hc⟩ := h.at_ (i64s_get zs i hl)
  exact ⟨b, y, e, by rw [hc]; simp [List.getD, hl]⟩
theorem int_far {W : World} {B : Option Addr} {zs : List Int} {g i : Nat} {u : Value} (h : Row W B (i64s zs)) (hBg : ∀ b y, B = some ⟨b, y, none⟩ → b ≠ g ∨ zs = []) : Row (W.setCell ⟨g, i, none⟩ u) B (i64s zs) := by
  rcases h with h2 | ⟨b, y, e, hc⟩
  · exact .inl h2
  · rcases hBg b y e with h3 | h3
    · exact .inr ⟨b, y, e, fun j u hj => (cell_set h3 _).trans (hc j u hj)⟩
    · exact .inl (by rw [h3]; rfl)
set_option maxHeartbeats 2000000 in
theorem grshift_ok (g c n : Nat) (l : List Nat) (o R C L : Nat) (B : Option Addr) (rc : Nat) (zr : List Int) (D : Option Addr) (cc : Nat) (zc : List Int) (w : World) (hO : Own w g l) (hW : Wds l) (hl : l.length = n) (hn : n < 1048576) (hRb : R < 1048576) (hCb : C < 1048576) (ho : I64 o) (hLI : I64 L) (hL1 : 1 ≤ L) (hRL : R ≤ L) (hmr : R = 0 ∨ C = 0 ∨ o + (C - 1) * L + (R - 1) < n)
    (hZr : Row w B (i64s zr)) (hzr : zr.length = R) (hBr : ∀ b y, B = some ⟨b, y, none⟩ → b ≠ g ∨ zr = []) (hZc : Row w D (i64s zc)) (hzc : zc.length = C) (hBc : ∀ b y, D = some ⟨b, y, none⟩ → b ≠ g ∨ zc = []) :
    Calls Try.prog 28 #[mat (some ⟨g, 0, none⟩) n c o R C L, .slice B R rc, .slice D C cc] w fun e w' => e = .returned (.int .i64 0) ∧ ∃ l', Own w' g l' ∧ Imr l o R C L (ShfR zr zc l o L) l' ∧ Chg [g] w w' := by
  have HG := Lib.hid (fun W => good_any (some ⟨g, 0, none⟩) n c o R C L W (by omega) ho (by unfold I64; omega) (by unfold I64; omega) hLI)
  rw [mat_right hL1 hRL hmr] at HG
  have HEa := Lib.hid (fun W (pr pq : Nat) (hb : Below w.heap.size w W) (hz : w.heap.size ≤ pr) (hz2 : w.heap.size ≤ pq) (hA : W.cell? ⟨pr, 0, none⟩ = some (.slice B R rc)) (hA2 : W.cell? ⟨pq, 0, none⟩ = some (.slice D C cc)) =>
    greach_any 59 #[.pointer (some ⟨pr, 0, none⟩), .pointer (some ⟨pq, 0, none⟩)]
      (fun W => W.cell? ⟨pr, 0, none⟩ = some (.slice B R rc) ∧ W.cell? ⟨pq, 0, none⟩ = some (.slice D C cc) ∧ Row W B (i64s zr) ∧ Row W D (i64s zc))
      (ShfR zr zc l o L) g n c l o R C L W (fun args W => grshift_enters args W) (hO.nxt hb) hl hn hRL hmr hRb hCb
      ⟨hA, hA2, hZr.below hb, hZc.below hb⟩
      (fun W W' h hb' => ⟨cell_below h.1 hb', cell_below h.2.1 hb', h.2.2.1.below hb', h.2.2.2.below hb'⟩)
      (fun W i j v hi hj _ h => ⟨(cell_set (by have := hO.lt; omega) _).trans h.1, (cell_set (by have := hO.lt; omega) _).trans h.2.1, int_far h.2.2.1 hBr, int_far h.2.2.2 hBc⟩)
      (fun W i j hi hj h => by
        obtain ⟨br, r0, eb, hcr⟩ := int_get h.2.2.1 hzr hi
        obtain ⟨bc, q0, ec, hcc⟩ := int_get h.2.2.2 hzc hj
        have := grshift_one (l.getD (o + i + j * L) 0) i j (zr.getD i 0) (zc.getD j 0) pr br r0 R rc pq bc q0 C cc W (by rw [← eb]; exact h.1) (by rw [← ec]; exact h.2.1) hcr hcc hi hj (gr_wds hW _)
        exact this.mono fun e w' ⟨e1, e2⟩ => ⟨_, e1, rfl, e2⟩))
  clear hO hW hl hn hRb hCb ho hLI hL1 hRL hmr hZr hzr hBr hZc hzc hBc
  have t1 : ((R : Int) == (R : Int)) = true := by simp
  have t1' : ((R : Int) != (R : Int)) = false := by simp
  have t2 : ((C : Int) == (C : Int)) = true := by simp
  have t2' : ((C : Int) != (C : Int)) = false := by simp
  unfold mat at *
  go_enter Try.func28, Try.ntmps28
  have Hm0 := Lib.hid (((Blk.new w 26 #[.slice (some ⟨g, 0, none⟩) n c, .int .i64 o, .int .i64 R, .int .i64 C, .int .i64 L]).alloc (.cells #[.slice B R rc] 53)).alloc (.cells #[.slice D C cc] 53))
  have Hr0 := Lib.hid ((Blk.new_ (w.alloc (.cells #[.slice (some ⟨g, 0, none⟩) n c, .int .i64 o, .int .i64 R, .int .i64 C, .int .i64 L] 26)) 53 #[.slice B R rc] (w.heap.size + 1) (by simp)).alloc (.cells #[.slice D C cc] 53))
  have Hq0 := Lib.hid (Blk.new_ ((w.alloc (.cells #[.slice (some ⟨g, 0, none⟩) n c, .int .i64 o, .int .i64 R, .int .i64 C, .int .i64 L] 26)).alloc (.cells #[.slice B R rc] 53)) 53 #[.slice D C cc] (w.heap.size + 1 + 1) (by simp))
  have HB0 := Lib.hid ((((Below.refl w.heap.size w).alloc (Nat.le_refl _) (.cells #[.slice (some ⟨g, 0, none⟩) n c, .int .i64 o, .int .i64 R, .int .i64 C, .int .i64 L] 26)).alloc (by simp) (.cells #[.slice B R rc] 53)).alloc (by simp; omega) (.cells #[.slice D C cc] 53))
  obtain ⟨m0, m1, m2, m3, m4⟩ := cells5 Hm0.out
  obtain ⟨r0, _⟩ := cells1g Hr0.out
  obtain ⟨q0, _⟩ := cells1g Hq0.out
  go_wp2_with fail
  refine (HG.out _).mono ?_
  rintro e w1 ⟨rfl, hb⟩
  have Hm1 := Lib.hid (Hm0.out.nxt hb)
  have Hr1 := Lib.hid (Hr0.out.nxt hb)
  have Hq1 := Lib.hid (Hq0.out.nxt hb)
  have HB1 := Lib.hid (below_nx HB0.out hb)
  clear hb
  clear m0 m1 m2 m3 m4 r0 q0
  obtain ⟨m0, m1, m2, m3, m4⟩ := cells5 Hm1.out
  obtain ⟨r0, _⟩ := cells1g Hr1.out
  obtain ⟨q0, _⟩ := cells1g Hq1.out
  go_wp2_with fail
  refine (HEa.out _ _ _ HB1.out (by omega) (by omega) r0 q0).mono ?_
  rintro e w6 ⟨rfl, l', hm1, hm2, _, hm3⟩
  have HM := Lib.hid (And.intro hm1 (And.intro hm2 hm3))
  clear hm1 hm2 hm3
  clear m0 m1 m2 m3 m4 r0 q0
  go_wp2_with fail
  go_ret
  exact ⟨rfl, l', HM.out.1, HM.out.2.1, (Chg.of_below HB1.out).trans HM.out.2.2⟩

set_option maxHeartbeats 2000000 in
theorem grturn_bad (A : Option Addr) (n c : Nat) (off r k ld : Int) (w : World) (hn : n < 9223372036854775808) (ho : I64 off) (hr : I64 r) (hk : I64 k) (hi : I64 ld) (hgd : matB n off r k ld = false) :
    Calls Try.prog 29 #[mat A n c off r k ld] w fun e w' => e = .returned (.tuple #[mat none 0 0 0 0 0 0, .int .i64 1]) ∧ Below w.heap.size w w' := by
  have HG := Lib.hid (fun W => good_any A n c off r k ld W hn ho hr hk hi)
  rw [hgd] at HG
  clear hn ho hr hk hi hgd
  unfold mat at *
  go_enter Try.func29, Try.ntmps29
  have HE0 := Lib.hid (Blk.new_ (w.alloc (.cells #[.slice A n c, .int .i64 off, .int .i64 r, .int .i64 k, .int .i64 ld] 26)) 26 #[.slice none 0 0, .int .i64 0, .int .i64 0, .int .i64 0, .int .i64 0] (w.heap.size + 1) (by simp))
  have HB0 := Lib.hid (((Below.refl w.heap.size w).alloc (Nat.le_refl _) (.cells #[.slice A n c, .int .i64 off, .int .i64 r, .int .i64 k, .int .i64 ld] 26)).alloc (by simp) (.cells #[.slice none 0 0, .int .i64 0, .int .i64 0, .int .i64 0, .int .i64 0] 26))
  go_wp2_with fail
  refine (HG.out _).mono ?_
  rintro e w1 ⟨rfl, hb⟩
  have HE1 := Lib.hid (HE0.out.nxt hb)
  have HB1 := Lib.hid (below_nx HB0.out hb)
  clear hb
  obtain ⟨z0, z1, z2, z3, z4⟩ := cells5 HE1.out
  obtain ⟨y0, y1, y2, y3, y4⟩ := frozen5 HE1.out
  have HSt := Lib.hid (HE1.out.store5 (.slice none 0 0) (.int .i64 0) (.int .i64 0) (.int .i64 0) (.int .i64 0))
  have HBe := Lib.hid (below5 HB1.out (Nat.le_succ w.heap.size) (.slice none 0 0) (.int .i64 0) (.int .i64 0) (.int .i64 0) (.int .i64 0))
  go_wp2_with fail
  obtain ⟨j0, j1, j2, j3, j4⟩ := cells5 HSt.out
  exact bodyPost_ret (v := .tuple #[.agg #[.slice none 0 0, .int .i64 0, .int .i64 0, .int .i64 0, .int .i64 0], .int .i64 1]) (by simp [results, Try.results29, go_sem, j0, j1, j2, j3, j4]) rfl ⟨rfl, HBe.out⟩
/-- A slice with room that reads as the list; a new matrix with these numbers. -/
def SlN (W : World) (v : Value) (N : Nat) (X : List Nat) : Prop := ∃ B d, v = .slice B N d ∧ Row W B (f64s X) ∧ N ≤ d
theorem SlN.below {W W' : World} {v : Value} {N : Nat} {X : List Nat} (h : SlN W v N X) (hb : Below W.heap.size W W') : SlN W' v N X := by
  obtain ⟨B, d, e, r, q⟩ := h
  exact ⟨B, d, e, r.below hb, q⟩
def DnS (W : World) (v : Value) (z N C R D : Nat) (X : List Nat) : Prop := ∃ g M, v = .agg #[.slice (some ⟨g, 0, none⟩) N N, .int .i64 0, .int .i64 (C : Int), .int .i64 (R : Int), .int .i64 (D : Int)] ∧ Dense X C R M ∧ Blk W g 28 (f64s M).toArray ∧ z + 2 ≤ g
theorem DnS.below {W W' : World} {v : Value} {z N C R D : Nat} {X : List Nat} (h : DnS W v z N C R D X) (hb : Below W.heap.size W W') : DnS W' v z N C R D X := by
  obtain ⟨g, M, e, h1, h2, h3⟩ := h
  exact ⟨g, M, e, h1, h2.nxt hb, h3⟩
/-- The boxes of Turn, before and behind the last store. -/
def TurnB (w : World) (z : Nat) (mb : Array Value) (N C R D : Nat) (X : List Nat) (b : Bool) (W : World) : Prop :=
  Below z w W ∧ Blk W z 26 mb ∧ (b = false → Blk W (z + 1) 26 #[.slice none 0 0, .int .i64 0, .int .i64 0, .int .i64 0, .int .i64 0]) ∧ (b = true → ∃ g M, Blk W (z + 1) 26 #[.slice (some ⟨g, 0, none⟩) N N, .int .i64 0, .int .i64 (C : Int), .int .i64 (R : Int), .int .i64 (D : Int)] ∧ Dense X C R M ∧ Blk W g 28 (f64s M).toArray ∧ z + 2 ≤ g)
theorem TurnB.nxt {w W W' : World} {z : Nat} {mb : Array Value} {N C R D : Nat} {X : List Nat} {b : Bool} (hz : z = w.heap.size) (h : TurnB w z mb N C R D X b W) (hb : Below W.heap.size W W') : TurnB w z mb N C R D X b W' := by
  subst hz
  refine ⟨below_nx h.1 hb, h.2.1.nxt hb, fun e => (h.2.2.1 e).nxt hb, fun e => ?_⟩
  obtain ⟨g, M, h1, h2, h3, h4⟩ := h.2.2.2 e
  exact ⟨g, M, h1.nxt hb, h2, h3.nxt hb, h4⟩

theorem run_max_natg (P : Program) (ts : Array TypeId) (t : TypeId) (x y : Nat) (w : World) : (Builtin.max_ ts t #[.int .i64 (x : Int), .int .i64 (y : Int)]).run P w = .ok (.int .i64 ((max x y : Nat) : Int)) w := run_max_nat P ts t x y w
attribute [local go_sem ↓] run_max_natg
set_option maxRecDepth 100000 in
set_option maxHeartbeats 2000000 in
theorem grturn_ok (A : Option Addr) (n c : Nat) (l : List Nat) (o R C L N D : Nat) (w : World) (hA : Row w A (f64s l)) (hl : l.length = n) (hnc : n ≤ c) (hn : n < 1048576) (hb : o < 9223372036854775808 ∧ R ≤ 64 ∧ C ≤ 64 ∧ L < 9223372036854775808) (hN : R * C = N) (hD : max 1 C = D) (hL : 1 ≤ L) (hR : R ≤ L) (hr : R = 0 ∨ C = 0 ∨ o + (C - 1) * L + (R - 1) < n) :
    Calls Try.prog 29 #[mat A n c o R C L] w fun e w' => ∃ g M, e = .returned (.tuple #[mat (some ⟨g, 0, none⟩) N N 0 C R D, .int .i64 0]) ∧ Dense (colsL l o R L C) C R M ∧ Own w' g M ∧ w.heap.size + 2 ≤ g ∧ Below w.heap.size w w' := by
  have HG := Lib.hid (fun W => good_any A n c o R C L W (by omega) (by unfold I64; omega) (by unfold I64; omega) (by unfold I64; omega) (by unfold I64; omega))
  rw [mat_right hL hR hr] at HG
  have HNm := Lib.hid (fun W (hb' : Below w.heap.size w W) => numbers_roomy A n c l o R C L N W (hA.below hb') hl hnc hn (by omega) hN hL hR hr)
  have hX := show (colsL l o R L C).length = N by rw [colsL_length, Nat.mul_comm, hN]
  have hN2 : N ≤ 4096 := by rw [← hN]; calc R * C ≤ 64 * 64 := Nat.mul_le_mul hb.2.1 hb.2.2.1
    _ = 4096 := rfl
  have HDn := Lib.hid (fun W (B : Option Addr) (d : Nat) (h1 : Row W B (f64s (colsL l o R L C))) (h2 : N ≤ d) => show Calls Try.prog 8 #[.int .i64 C, .int .i64 R, .slice B N d] W fun e w' => ∃ g M, e = .returned (mat (some ⟨g, 0, none⟩) N N 0 C R D) ∧ Dense (colsL l o R L C) C R M ∧ Blk w' g 28 (f64s M).toArray ∧ W.heap.size ≤ g ∧ Below W.heap.size W w' from by
    have := dense_blk B d (colsL l o R L C) C R W hb.2.2.1 hb.2.1 h1 (by omega) (by omega)
    rw [hX, hD, show C * R = N by rw [Nat.mul_comm]; exact hN] at this
    exact this)
  have hm64 : ¬ (64 : Int) < ((max R C : Nat) : Int) := by omega
  have hm65 : decide ((64 : Int) < ((max R C : Nat) : Int)) = false := decide_eq_false hm64
  generalize colsL l o R L C = X at *
  clear hA hl hnc hn hb hN hD hL hR hr hX hN2
  unfold mat at *
  go_enter Try.func29, Try.ntmps29
  have HZ0 := Lib.hid ((Blk.new w 26 #[.slice A n c, .int .i64 o, .int .i64 R, .int .i64 C, .int .i64 L]).alloc (.cells #[.slice none 0 0, .int .i64 0, .int .i64 0, .int .i64 0, .int .i64 0] 26))
  have HE0 := Lib.hid (Blk.new_ (w.alloc (.cells #[.slice A n c, .int .i64 o, .int .i64 R, .int .i64 C, .int .i64 L] 26)) 26 #[.slice none 0 0, .int .i64 0, .int .i64 0, .int .i64 0, .int .i64 0] (w.heap.size + 1) (by simp))
  have HB0 := Lib.hid (((Below.refl w.heap.size w).alloc (Nat.le_refl _) (.cells #[.slice A n c, .int .i64 o, .int .i64 R, .int .i64 C, .int .i64 L] 26)).alloc (by simp) (.cells #[.slice none 0 0, .int .i64 0, .int .i64 0, .int .i64 0, .int .i64 0] 26))
  obtain ⟨c0, c1, c2, c3, c4⟩ := cells5 HZ0.out
  go_wp2_with fail
  refine (HG.out _).mono ?_
  rintro e w1 ⟨rfl, hb⟩
  have HZ := Lib.hid (HZ0.out.nxt hb)
  have HE1 := Lib.hid (HE0.out.nxt hb)
  have HB1 := Lib.hid (below_nx HB0.out hb)
  clear hb c0 c1 c2 c3 c4
  obtain ⟨c0, c1, c2, c3, c4⟩ := cells5 HZ.out
  go_wp2_with fail
  generalize hz : w.heap.size = z at *
  have Hz := Lib.hid hz
  clear hz c0 c1 c2 c3 c4
  have HTB := Lib.hid (show TurnB w z #[.slice A n c, .int .i64 o, .int .i64 R, .int .i64 C, .int .i64 L] N C R D X false w1.drew from ⟨HB1.out.drew, HZ.out.drew, fun _ => HE1.out.drew, fun e => by cases e⟩)
  refine wp_region_inv [17, 18, 19, 20, 21, 22, 23, 3] (fun d s W => (d 0 = true → s 17 = .pointer (some ⟨z, 3, none⟩)) ∧ (d 1 = true → s 18 = .int .i64 (C : Int)) ∧ (d 2 = true → s 19 = .pointer (some ⟨z, 2, none⟩)) ∧ (d 3 = true → s 20 = .int .i64 (R : Int)) ∧ (d 4 = true → s 21 = .agg #[.slice A n c, .int .i64 (o : Int), .int .i64 (R : Int), .int .i64 (C : Int), .int .i64 (L : Int)]) ∧ (d 5 = true → (d 7 = false → SlN W (s 22) N X)) ∧ (d 6 = true → (d 7 = false → DnS W (s 23) z N C R D X)) ∧ (d 8 = true → s 3 = .int .i64 0) ∧ (d 1 = true → d 0 = true) ∧ (d 3 = true → d 2 = true) ∧ (d 5 = true → d 4 = true) ∧ (d 6 = true → d 0 = true ∧ d 1 = true ∧ d 2 = true ∧ d 3 = true ∧ d 4 = true ∧ d 5 = true) ∧ (d 7 = true → d 0 = true ∧ d 1 = true ∧ d 2 = true ∧ d 3 = true ∧ d 4 = true ∧ d 5 = true ∧ d 6 = true) ∧ TurnB w z #[.slice A n c, .int .i64 o, .int .i64 R, .int .i64 C, .int .i64 L] N C R D X (d 7) W)
    rfl (by kernel_rfl) ?_ ?_ ?_
  · exact ⟨by simp, by simp, by simp, by simp, by simp, by simp, by simp, by simp, by simp, by simp, by simp, by simp, by simp, HTB.out⟩
  · refine ⟨?_, ?_, ?_, ?_, ?_, ?_, ?_, ?_, ?_, trivial⟩
    all_goals
      intro d s W hJ hfr hd hdep
      simp only [List.mem_cons, forall_eq_or_imp, List.not_mem_nil, false_implies, implies_true, and_true, Region.binds] at hdep
      have f1 := hfr 1 (by decide)
      have f2 := hfr 2 (by decide)
      simp at f1 f2 hdep
      obtain ⟨h0, h1, h2, h3, h4, h5, h6, h8, x0, x1, x2, x3, x4, hT⟩ := hJ
    · have hl : d 7 = false := by
        cases h : d 7
        · rfl
        · have := x4 h; simp [hd] at this
      unfold OpSteps
      simp [go_sem, evS, f1]
      exact ⟨fun _ => by simp [sput], fun h => by simpa [sput] using h1 (by simpa [did] using h), fun h => by simpa [sput] using h2 (by simpa [did] using h), fun h => by simpa [sput] using h3 (by simpa [did] using h), fun h => by simpa [sput] using h4 (by simpa [did] using h), fun h e => by simpa [sput] using (h5 (by simpa [did] using h) (by simpa [did] using e)), fun h e => by simpa [sput] using (h6 (by simpa [did] using h) (by simpa [did] using e)), fun h => by simpa [sput] using h8 (by simpa [did] using h), fun h => by have := x0 (by simpa [did] using h); simp [did, this], fun h => by have := x1 (by simpa [did] using h); simp [did, this], fun h => by have := x2 (by simpa [did] using h); simp [did, this], fun h => by have := x3 (by simpa [did] using h); simp [did, this], fun h => by have := x4 (by simpa [did] using h); simp [did, this], by simpa [did] using hT⟩
    · have hl : d 7 = false := by
        cases h : d 7
        · rfl
        · have := x4 h; simp [hd] at this
      have g0 := h0 (by simp [hdep])
      unfold OpSteps
      obtain ⟨p0, p1, p2, p3, p4⟩ := cells5 hT.2.1
      simp [go_sem, evS, g0, p0, p1, p2, p3, p4]
      exact ⟨fun h => by simpa [sput] using h0 (by simpa [did] using h), fun _ => by simp [sput], fun h => by simpa [sput] using h2 (by simpa [did] using h), fun h => by simpa [sput] using h3 (by simpa [did] using h), fun h => by simpa [sput] using h4 (by simpa [did] using h), fun h e => by simpa [sput] using (h5 (by simpa [did] using h) (by simpa [did] using e)), fun h e => by simpa [sput] using (h6 (by simpa [did] using h) (by simpa [did] using e)), fun h => by simpa [sput] using h8 (by simpa [did] using h), fun _ => by simp [did, hdep], fun h => by have := x1 (by simpa [did] using h); simp [did, this], fun h => by have := x2 (by simpa [did] using h); simp [did, this], fun h => by have := x3 (by simpa [did] using h); simp [did, this], fun h => by have := x4 (by simpa [did] using h); simp [did, this], by simpa [did] using hT⟩
    · have hl : d 7 = false := by
        cases h : d 7
        · rfl
        · have := x4 h; simp [hd] at this
      unfold OpSteps
      simp [go_sem, evS, f1]
      exact ⟨fun h => by simpa [sput] using h0 (by simpa [did] using h), fun h => by simpa [sput] using h1 (by simpa [did] using h), fun _ => by simp [sput], fun h => by simpa [sput] using h3 (by simpa [did] using h), fun h => by simpa [sput] using h4 (by simpa [did] using h), fun h e => by simpa [sput] using (h5 (by simpa [did] using h) (by simpa [did] using e)), fun h e => by simpa [sput] using (h6 (by simpa [did] using h) (by simpa [did] using e)), fun h => by simpa [sput] using h8 (by simpa [did] using h), fun h => by have := x0 (by simpa [did] using h); simp [did, this], fun h => by have := x1 (by simpa [did] using h); simp [did, this], fun h => by have := x2 (by simpa [did] using h); simp [did, this], fun h => by have := x3 (by simpa [did] using h); simp [did, this], fun h => by have := x4 (by simpa [did] using h); simp [did, this], by simpa [did] using hT⟩
    · have hl : d 7 = false := by
        cases h : d 7
        · rfl
        · have := x4 h; simp [hd] at this
      have g2 := h2 (by simp [hdep])
      unfold OpSteps
      obtain ⟨p0, p1, p2, p3, p4⟩ := cells5 hT.2.1
      simp [go_sem, evS, g2, p0, p1, p2, p3, p4]
      exact ⟨fun h => by simpa [sput] using h0 (by simpa [did] using h), fun h => by simpa [sput] using h1 (by simpa [did] using h), fun h => by simpa [sput] using h2 (by simpa [did] using h), fun _ => by simp [sput], fun h => by simpa [sput] using h4 (by simpa [did] using h), fun h e => by simpa [sput] using (h5 (by simpa [did] using h) (by simpa [did] using e)), fun h e => by simpa [sput] using (h6 (by simpa [did] using h) (by simpa [did] using e)), fun h => by simpa [sput] using h8 (by simpa [did] using h), fun h => by have := x0 (by simpa [did] using h); simp [did, this], fun _ => by simp [did, hdep], fun h => by have := x2 (by simpa [did] using h); simp [did, this], fun h => by have := x3 (by simpa [did] using h); simp [did, this], fun h => by have := x4 (by simpa [did] using h); simp [did, this], by simpa [did] using hT⟩
    · have hl : d 7 = false := by
        cases h : d 7
        · rfl
        · have := x4 h; simp [hd] at this
      unfold OpSteps
      obtain ⟨p0, p1, p2, p3, p4⟩ := cells5 hT.2.1
      simp [go_sem, evS, f1, p0, p1, p2, p3, p4]
      exact ⟨fun h => by simpa [sput] using h0 (by simpa [did] using h), fun h => by simpa [sput] using h1 (by simpa [did] using h), fun h => by simpa [sput] using h2 (by simpa [did] using h), fun h => by simpa [sput] using h3 (by simpa [did] using h), fun _ => by simp [sput], fun h e => by simpa [sput] using (h5 (by simpa [did] using h) (by simpa [did] using e)), fun h e => by simpa [sput] using (h6 (by simpa [did] using h) (by simpa [did] using e)), fun h => by simpa [sput] using h8 (by simpa [did] using h), fun h => by have := x0 (by simpa [did] using h); simp [did, this], fun h => by have := x1 (by simpa [did] using h); simp [did, this], fun h => by have := x2 (by simpa [did] using h); simp [did, this], fun h => by have := x3 (by simpa [did] using h); simp [did, this], fun h => by have := x4 (by simpa [did] using h); simp [did, this], by simpa [did] using hT⟩
    · have hl : d 7 = false := by
        cases h : d 7
        · rfl
        · have := x4 h; simp [hd] at this
      have g4 := h4 (by simp [hdep])
      unfold OpSteps
      simp [go_sem, evS, g4]
      refine (HNm.out W hT.1).mono ?_
      rintro e W' ⟨B9, d9, rfl, hr9, _, hq9, hb⟩
      refine ⟨_, rfl, ?_⟩
      exact ⟨fun h => by simpa [sput] using h0 (by simpa [did] using h), fun h => by simpa [sput] using h1 (by simpa [did] using h), fun h => by simpa [sput] using h2 (by simpa [did] using h), fun h => by simpa [sput] using h3 (by simpa [did] using h), fun h => by simpa [sput] using h4 (by simpa [did] using h), fun _ => fun _ => ⟨B9, d9, by simp [sput], hr9, hq9⟩, fun h e => by simpa [sput] using (h6 (by simpa [did] using h) (by simpa [did] using e)).below hb, fun h => by simpa [sput] using h8 (by simpa [did] using h), fun h => by have := x0 (by simpa [did] using h); simp [did, this], fun h => by have := x1 (by simpa [did] using h); simp [did, this], fun _ => by simp [did, hdep], fun h => by have := x3 (by simpa [did] using h); simp [did, this], fun h => by have := x4 (by simpa [did] using h); simp [did, this], by simpa [did] using hT.nxt Hz.out.symm hb⟩
    · have hl : d 7 = false := by
        cases h : d 7
        · rfl
        · have := x4 h; simp [hd] at this
      have g1 := h1 (by simp [hdep])
      have g3 := h3 (by simp [hdep])
      have g5 := h5 (by simp [hdep])
      unfold OpSteps
      obtain ⟨B9, d9, gv, gr, gd⟩ := g5 hl
      simp [go_sem, evS, g1, g3, gv]
      refine (HDn.out W B9 d9 gr gd).mono ?_
      rintro e W' ⟨g9, M9, rfl, hM9, hB9, hg9, hb⟩
      refine ⟨_, rfl, ?_⟩
      exact ⟨fun h => by simpa [sput] using h0 (by simpa [did] using h), fun h => by simpa [sput] using h1 (by simpa [did] using h), fun h => by simpa [sput] using h2 (by simpa [did] using h), fun h => by simpa [sput] using h3 (by simpa [did] using h), fun h => by simpa [sput] using h4 (by simpa [did] using h), fun h e => by simpa [sput] using (h5 (by simpa [did] using h) (by simpa [did] using e)).below hb, fun _ => fun _ => ⟨g9, M9, by simp [sput], hM9, hB9, by have := (hT.2.2.1 hl).lt; omega⟩, fun h => by simpa [sput] using h8 (by simpa [did] using h), fun h => by have := x0 (by simpa [did] using h); simp [did, this], fun h => by have := x1 (by simpa [did] using h); simp [did, this], fun h => by have := x2 (by simpa [did] using h); simp [did, this], fun _ => by have y1 := x0 (by simp [hdep]); have y3 := x1 (by simp [hdep]); have y5 := x2 (by simp [hdep]); simp [did, hdep, y1, y3, y5], fun h => by have := x4 (by simpa [did] using h); simp [did, this], by simpa [did] using hT.nxt Hz.out.symm hb⟩
    · have g6 := h6 (by simp [hdep])
      unfold OpSteps
      obtain ⟨g9, M9, gv, hM9, hB9, hg9⟩ := g6 hd
      obtain ⟨hT1, hT2, hT3, _⟩ := hT
      replace hT3 := hT3 hd
      obtain ⟨fr0, fr1, fr2, fr3, fr4⟩ := frozen5w hT3
      obtain ⟨k0, k1, k2, k3, k4⟩ := cells5 hT3
      simp [go_sem, evS, f2, gv, fr0, fr1, fr2, fr3, fr4, k0, k1, k2, k3, k4]
      exact ⟨fun h => by simpa [sput] using h0 (by simpa [did] using h), fun h => by simpa [sput] using h1 (by simpa [did] using h), fun h => by simpa [sput] using h2 (by simpa [did] using h), fun h => by simpa [sput] using h3 (by simpa [did] using h), fun h => by simpa [sput] using h4 (by simpa [did] using h), fun h e => by simp [did] at e, fun h e => by simp [did] at e, fun h => by simpa [sput] using h8 (by simpa [did] using h), fun h => by have := x0 (by simpa [did] using h); simp [did, this], fun h => by have := x1 (by simpa [did] using h); simp [did, this], fun h => by have := x2 (by simpa [did] using h); simp [did, this], fun h => by have := x3 (by simpa [did] using h); simp [did, this], fun _ => by have y6 := x3 (by simp [hdep]); simp [did, hdep, y6], ⟨below5 hT1 (Nat.le_succ z) _ _ _ _ _, blk5 hT2 (by omega) _ _ _ _ _, fun h => by simp [did] at h, fun _ => ⟨g9, M9, hT3.store5 _ _ _ _ _, hM9, blk5 hB9 (by omega) _ _ _ _ _, hg9⟩⟩⟩
    · unfold OpSteps
      simp [go_sem, evS]
      exact ⟨fun h => by simpa [sput] using h0 (by simpa [did] using h), fun h => by simpa [sput] using h1 (by simpa [did] using h), fun h => by simpa [sput] using h2 (by simpa [did] using h), fun h => by simpa [sput] using h3 (by simpa [did] using h), fun h => by simpa [sput] using h4 (by simpa [did] using h), fun h e => by simpa [sput] using (h5 (by simpa [did] using h) (by simpa [did] using e)), fun h e => by simpa [sput] using (h6 (by simpa [did] using h) (by simpa [did] using e)), fun _ => by simp [sput], fun h => by have := x0 (by simpa [did] using h); simp [did, this], fun h => by have := x1 (by simpa [did] using h); simp [did, this], fun h => by have := x2 (by simpa [did] using h); simp [did, this], fun h => by have := x3 (by simpa [did] using h); simp [did, this], fun h => by have := x4 (by simpa [did] using h); simp [did, this], by simpa [did] using hT⟩
  intro d s W hJ hd
  obtain ⟨h0, h1, h2, h3, h4, h5, h6, h8, x0, x1, x2, x3, x4, hT⟩ := hJ
  have hs := h8 (hd 8 (by decide))
  obtain ⟨hT1, _, _, hT4⟩ := hT
  obtain ⟨g9, M9, hE9, hM9, hB9, hg9⟩ := hT4 (hd 7 (by decide))
  have HT1 := Lib.hid hT1
  have HE9 := Lib.hid hE9
  have HD9 := Lib.hid hM9
  have HB9 := Lib.hid hB9
  clear h0 h1 h2 h3 h4 h5 h6 h8 x0 x1 x2 x3 x4 hd hT4 hT1 hE9 hM9 hB9
  simp [setAll, hs]
  clear hs
  generalize s 17 = s17
  generalize s 18 = s18
  generalize s 19 = s19
  generalize s 20 = s20
  generalize s 21 = s21
  generalize s 22 = s22
  generalize s 23 = s23
  obtain ⟨j0, j1, j2, j3, j4⟩ := cells5 HE9.out
  go_wp2_with fail
  exact bodyPost_ret (v := .tuple #[.agg #[.slice (some ⟨g9, 0, none⟩) N N, .int .i64 0, .int .i64 (C : Int), .int .i64 (R : Int), .int .i64 (D : Int)], .int .i64 0]) (by simp [results, Try.results29, go_sem, j0, j1, j2, j3, j4]) rfl ⟨g9, M9, rfl, HD9.out, own_blk HB9.out, by have := Hz.out; omega, by rw [Hz.out]; exact HT1.out⟩

/-- Nothing to go through. -/
theorem greach_zero (F : FuncId) (caps : Array Value) (w : World) : Calls Try.prog 49 #[mat none 0 0 0 0 0 0, .func (.func F) #[] caps] w fun e w' => e = .returned (.tuple #[]) ∧ Below w.heap.size w w' := by
  unfold mat
  go_enter Try.func49, Try.ntmps49
  have HZ := Lib.hid (Blk.new w 26 #[.slice none 0 0, .int .i64 0, .int .i64 0, .int .i64 0, .int .i64 0])
  have HB := Lib.hid ((Below.refl w.heap.size w).alloc (Nat.le_refl _) (.cells #[.slice none 0 0, .int .i64 0, .int .i64 0, .int .i64 0, .int .i64 0] 26))
  obtain ⟨c0, c1, c2, c3, c4⟩ := cells5 HZ.out
  go_wp2_with fail
  go_loopw [9] (fun a wr => a = .int .i64 0 ∧ Below w.heap.size w wr) (fun a _ => 0)
  case atStart => exact ⟨rfl, HB.out⟩
  case round =>
    obtain ⟨rfl, hb⟩ := hrel
    have HB2 := Lib.hid hb
    clear hb c0 c1 c2 c3 c4
    go_wp2_with fail
    go_end0
    exact ⟨rfl, HB2.out⟩

set_option maxHeartbeats 2000000 in
theorem greye_out (n : Int) (w : World) (h : n < 0 ∨ 64 < n) : Calls Try.prog 32 #[.int .i64 n] w fun e w' => e = .returned (mat none 0 0 0 0 0 0) ∧ Below w.heap.size w w' := by
  have HDn := Lib.hid (fun W => dense_zero none 0 0 n n W (by omega))
  clear h
  unfold mat at *
  go_enter Try.func32, Try.ntmps32
  have HE0 := Lib.hid (Blk.new w 26 #[.slice none 0 0, .int .i64 0, .int .i64 0, .int .i64 0, .int .i64 0])
  have HB0 := Lib.hid ((Below.refl w.heap.size w).alloc (Nat.le_refl _) (.cells #[.slice none 0 0, .int .i64 0, .int .i64 0, .int .i64 0, .int .i64 0] 26))
  go_wp2_with fail
  refine (HDn.out _).mono ?_
  rintro e w1 ⟨rfl, hb⟩
  have HE1 := Lib.hid ((HE0.out.nxt hb).alloc (.cells #[.slice none 0 0, .int .i64 0, .int .i64 0, .int .i64 0, .int .i64 0] 26))
  have HT1 := Lib.hid (Blk.new w1 26 #[.slice none 0 0, .int .i64 0, .int .i64 0, .int .i64 0, .int .i64 0])
  have HB1 := Lib.hid (below_al (below_nx HB0.out hb) (o := (.cells #[.slice none 0 0, .int .i64 0, .int .i64 0, .int .i64 0, .int .i64 0] 26)))
  have hsz := HE0.out.lt
  have hwt : w.heap.size + 1 ≤ w1.heap.size := by have := hb.size; simp at this; omega
  clear hb hsz
  obtain ⟨t0, t1, t2, t3, t4⟩ := cells5 HT1.out
  go_wp2_with fail
  generalize hW2 : w1.alloc (.cells #[.slice none 0 0, .int .i64 0, .int .i64 0, .int .i64 0, .int .i64 0] 26) = w2 at *
  generalize w1.heap.size = tb at *
  clear hW2 t0 t1 t2 t3 t4
  refine (greach_zero _ _ _).mono ?_
  rintro e w3 ⟨rfl, hb⟩
  have HT2 := Lib.hid (HT1.out.nxt hb)
  have HE2 := Lib.hid (HE1.out.nxt hb)
  have HB2 := Lib.hid (below_nx HB1.out hb)
  clear hb
  obtain ⟨t0, t1, t2, t3, t4⟩ := cells5 HT2.out
  obtain ⟨z0, z1, z2, z3, z4⟩ := cells5 HE2.out
  obtain ⟨y0, y1, y2, y3, y4⟩ := frozen5 HE2.out
  have HSt := Lib.hid (HE2.out.store5 (.slice none 0 0) (.int .i64 0) (.int .i64 0) (.int .i64 0) (.int .i64 0))
  have HBe := Lib.hid (below5 HB2.out (Nat.le_refl w.heap.size) (.slice none 0 0) (.int .i64 0) (.int .i64 0) (.int .i64 0) (.int .i64 0))
  go_wp2_with fail
  obtain ⟨j0, j1, j2, j3, j4⟩ := cells5 HSt.out
  exact bodyPost_ret (v := .agg #[.slice none 0 0, .int .i64 0, .int .i64 0, .int .i64 0, .int .i64 0]) (by simp [results, Try.results32, go_sem, j0, j1, j2, j3, j4]) rfl ⟨rfl, HBe.out⟩

def EyeR (i j r : Nat) : Prop := r = if i = j then 4607182418800017408 else 0
set_option maxHeartbeats 2000000 in
theorem greye_ok (n N D : Nat) (w : World) (hn : n ≤ 64) (hN : n * n = N) (hD : max 1 n = D) : Calls Try.prog 32 #[.int .i64 (n : Int)] w fun e w' => ∃ g M l', e = .returned (mat (some ⟨g, 0, none⟩) N N 0 n n D) ∧ Dense [] n n M ∧ Own w' g l' ∧ Imr M 0 n n D EyeR l' ∧ w.heap.size + 1 ≤ g ∧ Below w.heap.size w w' := by
  have HDn := Lib.hid (fun W => show Calls Try.prog 8 #[.int .i64 n, .int .i64 n, .slice none 0 0] W fun e w' => ∃ g M, e = .returned (mat (some ⟨g, 0, none⟩) N N 0 n n D) ∧ Dense [] n n M ∧ Blk w' g 28 (f64s M).toArray ∧ W.heap.size ≤ g ∧ Below W.heap.size W w' from by
    have := dense_blk none 0 [] n n W hn hn (.inl rfl) (by simp) (by simp)
    rw [hN, hD] at this
    exact this)
  have hNb : N ≤ 4096 := by rw [← hN]; calc n * n ≤ 64 * 64 := Nat.mul_le_mul hn hn
    _ = 4096 := rfl
  have hgd : n = 0 ∨ n = 0 ∨ 0 + (n - 1) * D + (n - 1) < N := by
    rcases Nat.eq_zero_or_pos n with h | h
    · exact .inl h
    · right; right
      obtain ⟨m, rfl⟩ : ∃ m, n = m + 1 := ⟨n - 1, by omega⟩
      have : D = m + 1 := by omega
      subst this
      rw [← hN, Nat.add_sub_cancel]
      have : (m + 1) * (m + 1) = m * (m + 1) + (m + 1) := by rw [Nat.add_mul, Nat.one_mul]
      omega
  have HEa := Lib.hid (fun W (g : Nat) (M : List Nat) (hO : Own W g M) (hM : M.length = n * n) =>
    greach_any 65 #[] (fun _ => True) EyeR g N N M 0 n n D W (fun args W => greye_enters args W) hO (hM.trans hN) (by omega) (by omega) hgd (by omega) (by omega) trivial
      (fun _ _ _ _ => trivial) (fun _ _ _ _ _ _ _ _ => trivial)
      (fun W i j hi hj _ => (greye_one i j (M.getD (0 + i + j * D) 0) W).mono fun e w' ⟨r, e1, e2, e3⟩ => ⟨r, e1, e2, e3⟩))
  clear hn hN hD hNb hgd
  unfold mat at *
  go_enter Try.func32, Try.ntmps32
  have HE0 := Lib.hid (Blk.new w 26 #[.slice none 0 0, .int .i64 0, .int .i64 0, .int .i64 0, .int .i64 0])
  have HB0 := Lib.hid ((Below.refl w.heap.size w).alloc (Nat.le_refl _) (.cells #[.slice none 0 0, .int .i64 0, .int .i64 0, .int .i64 0, .int .i64 0] 26))
  go_wp2_with fail
  refine (HDn.out _).mono ?_
  rintro e w1 ⟨g, M, rfl, hM, hBk, hg, hb⟩
  have HE1 := Lib.hid ((HE0.out.nxt hb).alloc (.cells #[.slice (some ⟨g, 0, none⟩) N N, .int .i64 0, .int .i64 (n : Int), .int .i64 (n : Int), .int .i64 (D : Int)] 26))
  have HT1 := Lib.hid (Blk.new w1 26 #[.slice (some ⟨g, 0, none⟩) N N, .int .i64 0, .int .i64 (n : Int), .int .i64 (n : Int), .int .i64 (D : Int)])
  have HK1 := Lib.hid (own_blk (hBk.alloc (.cells #[.slice (some ⟨g, 0, none⟩) N N, .int .i64 0, .int .i64 (n : Int), .int .i64 (n : Int), .int .i64 (D : Int)] 26)))
  have HDM := Lib.hid hM
  have hg1 : w.heap.size + 1 ≤ g := by have := HE0.out.lt; simp at hg; omega
  have hg2 : g < w1.heap.size := hBk.lt
  have HB1 := Lib.hid (below_al (below_nx HB0.out hb) (o := (.cells #[.slice (some ⟨g, 0, none⟩) N N, .int .i64 0, .int .i64 (n : Int), .int .i64 (n : Int), .int .i64 (D : Int)] 26)))
  have hsz := HE0.out.lt
  have hwt : w.heap.size + 1 ≤ w1.heap.size := by have := hb.size; simp at this; omega
  clear hb hBk hM hg hsz
  obtain ⟨t0, t1, t2, t3, t4⟩ := cells5 HT1.out
  go_wp2_with fail
  generalize hW2 : w1.alloc (.cells #[.slice (some ⟨g, 0, none⟩) N N, .int .i64 0, .int .i64 (n : Int), .int .i64 (n : Int), .int .i64 (D : Int)] 26) = w2 at *
  generalize w1.heap.size = tb at *
  clear hW2 t0 t1 t2 t3 t4
  refine (HEa.out w2 g M HK1.out HDM.out.1).mono ?_
  rintro e w3 ⟨rfl, l', hm1, hm2, _, hm3⟩
  have HT2 := Lib.hid (hm3.blk (by simp; omega) HT1.out)
  have HE2 := Lib.hid (hm3.blk (by simp; omega) HE1.out)
  have HB2 := Lib.hid (hm3.below HB1.out HB1.out.size (fun x hx => by simp at hx; omega))
  have HM := Lib.hid (And.intro hm1 hm2)
  clear hm1 hm2 hm3
  obtain ⟨t0, t1, t2, t3, t4⟩ := cells5 HT2.out
  obtain ⟨z0, z1, z2, z3, z4⟩ := cells5 HE2.out
  obtain ⟨y0, y1, y2, y3, y4⟩ := frozen5 HE2.out
  have HSt := Lib.hid (HE2.out.store5 (.slice (some ⟨g, 0, none⟩) N N) (.int .i64 0) (.int .i64 (n : Int)) (.int .i64 (n : Int)) (.int .i64 (D : Int)))
  have HBe := Lib.hid (below5 HB2.out (Nat.le_refl w.heap.size) (.slice (some ⟨g, 0, none⟩) N N) (.int .i64 0) (.int .i64 (n : Int)) (.int .i64 (n : Int)) (.int .i64 (D : Int)))
  have HKe := Lib.hid (own5 HM.out.1 (show g ≠ w.heap.size by omega) (.slice (some ⟨g, 0, none⟩) N N) (.int .i64 0) (.int .i64 (n : Int)) (.int .i64 (n : Int)) (.int .i64 (D : Int)))
  go_wp2_with fail
  obtain ⟨j0, j1, j2, j3, j4⟩ := cells5 HSt.out
  exact bodyPost_ret (v := .agg #[.slice (some ⟨g, 0, none⟩) N N, .int .i64 0, .int .i64 (n : Int), .int .i64 (n : Int), .int .i64 (D : Int)]) (by simp [results, Try.results32, go_sem, j0, j1, j2, j3, j4]) rfl ⟨g, M, l', rfl, HDM.out, HKe.out, HM.out.2, by omega, HBe.out⟩
end Go.Proofs.Ytmjaakngiilmdaa
