/-
Ger: the program's Shift, Turn and Eye. Conditions: as each says.
-/
import Derived.Test.YtelpdbkkefpjhaaWKm
import Derived.Test.YtelpdbkkefpjhaaZKGrBs
import Derived.Test.YtelpdbkkefpjhaaZKCl
import Derived.Test.YtelpdbkkefpjhaaWKk
import Derived.Test.YtelpdbkkefpjhaaWKb
set_option linter.unusedVariables false
set_option linter.unusedSimpArgs false
set_option linter.unnecessarySimpa false
namespace Go.Proofs.Ytelpdbkkefpjhaa
open Go.RowKit
attribute [local go_sem ↓] Go.wp_at_zero Go.wp_at_succ

/-- What Shift makes of a number. -/
def ShfR (zr zc : List Int) (l : List Nat) (o L : Nat) (i j r : Nat) : Prop := r = Fl.scale (l.getD (o + i + j * L) 0) (shfE (zr.getD i 0) (zc.getD j 0))
theorem int_get {W : World} {B : Option Addr} {zs : List Int} {K i : Nat} (h : Row W B (i64s zs)) (hz : zs.length = K) (hi : i < K) : ∃ b y, B = some ⟨b, y, none⟩ ∧ W.cell? ⟨b, y + i, none⟩ = some (.int .i64 (zs.getD i 0)) := by
  have hl : i < zs.length := by omega
  obtain ⟨b, y, e, _, hc⟩ := h.at_ (i64s_get zs i hl)
  exact ⟨b, y, e, by rw [hc]; simp [List.getD, hl]⟩
theorem int_far {W : World} {B : Option Addr} {zs : List Int} {g i : Nat} {u : Value} (h : Row W B (i64s zs)) (hBg : ∀ b y, B = some ⟨b, y, none⟩ → b ≠ g ∨ zs = []) : Row (W.setCell ⟨g, i, none⟩ u) B (i64s zs) := by
  rcases h with h2 | ⟨b, y, e, hc⟩
  · exact .inl h2
  · rcases hBg b y e with h3 | h3
    · exact .inr ⟨b, y, e, fun j u hj => (cell_set h3 _).trans (hc j u hj)⟩
    · exact .inl (by rw [h3]; rfl)
set_option maxHeartbeats 2000000 in
theorem grshift_ok (g c n : Nat) (l : List Nat) (o R C L : Nat) (B : Option Addr) (rc : Nat) (zr : List Int) (D : Option Addr) (cc : Nat) (zc : List Int) (w : World) (hO : Own w g l) (hW : Wds l) (hl : l.length = n) (hn : n < 1048576) (hRb : R < 1048576) (hCb : C < 1048576) (ho : I64 o) (hLI : I64 L) (hL1 : 1 ≤ L) (hRL : R ≤ L) (hmr : R = 0 ∨ C = 0 ∨ o + (C - 1) * L + (R - 1) < n)
    (hZr : Row w B (i64s zr)) (hzr : zr.length = R) (hBr : ∀ b y, B = some ⟨b, y, none⟩ → b ≠ g ∨ zr = []) (hZc : Row w D (i64s zc)) (hzc : zc.length = C) (hBc : ∀ b y, D = some ⟨b, y, none⟩ → b ≠ g ∨ zc = []) :
    Calls Try.prog 38 #[mat (some ⟨g, 0, none⟩) n c o R C L, .slice B R rc, .slice D C cc] w fun e w' => e = .returned (.int .i64 0) ∧ ∃ l', Own w' g l' ∧ Imr l o R C L (ShfR zr zc l o L) l' ∧ Chg [g] w w' := by
  have HG := Lib.hid (fun W => good_any (some ⟨g, 0, none⟩) n c o R C L W (by omega) ho (by unfold I64; omega) (by unfold I64; omega) hLI)
  rw [mat_right hL1 hRL hmr] at HG
  have HEa := Lib.hid (fun W (pr pq : Nat) (hb : Below w.heap.size w W) (hz : w.heap.size ≤ pr) (hz2 : w.heap.size ≤ pq) (hA : W.cell? ⟨pr, 0, none⟩ = some (.slice B R rc)) (hA2 : W.cell? ⟨pq, 0, none⟩ = some (.slice D C cc)) =>
    greach_any 60 #[.pointer (some ⟨pr, 0, none⟩), .pointer (some ⟨pq, 0, none⟩)]
      (fun W => W.cell? ⟨pr, 0, none⟩ = some (.slice B R rc) ∧ W.cell? ⟨pq, 0, none⟩ = some (.slice D C cc) ∧ Row W B (i64s zr) ∧ Row W D (i64s zc))
      (ShfR zr zc l o L) g n c l o R C L W (fun args W => grshift_enters args W) (hO.nxt hb) hl hn hRL hmr hRb hCb
      ⟨hA, hA2, hZr.below hb, hZc.below hb⟩
      (fun W W' h hb' => ⟨cell_below h.1 hb', cell_below h.2.1 hb', h.2.2.1.below hb', h.2.2.2.below hb'⟩)
      (fun W i j v hi hj _ h => ⟨(cell_set (by have := hO.lt; omega) _).trans h.1, (cell_set (by have := hO.lt; omega) _).trans h.2.1, int_far h.2.2.1 hBr, int_far h.2.2.2 hBc⟩)
      (fun W i j hi hj h => by
        obtain ⟨br, r0, eb, hcr⟩ := int_get h.2.2.1 hzr hi
        obtain ⟨bc, q0, ec, hcc⟩ := int_get h.2.2.2 hzc hj
        have := grshift_one (l.getD (o + i + j * L) 0) i j (zr.getD i 0) (zc.getD j 0) pr br r0 R rc pq bc q0 C cc W (by rw [← eb]; exact h.1) (by rw [← ec]; exact h.2.1) hcr hcc hi hj (gr_wds hW _)
        exact this.mono fun e w' ⟨e1, e2⟩ => ⟨_, e1, rfl, e2⟩))
  clear hO hW hl hn hRb hCb ho hLI hL1 hRL hmr hZr hzr hBr hZc hzc hBc
  have t1 : ((R : Int) == (R : Int)) = true := by simp
  have t1' : ((R : Int) != (R : Int)) = false := by simp
  have t2 : ((C : Int) == (C : Int)) = true := by simp
  have t2' : ((C : Int) != (C : Int)) = false := by simp
  unfold mat at *
  go_enter Try.func38, Try.ntmps38
  have Hm0 := Lib.hid (((Blk.new w 24 #[.slice (some ⟨g, 0, none⟩) n c, .int .i64 o, .int .i64 R, .int .i64 C, .int .i64 L]).alloc (.cells #[.slice B R rc] 27)).alloc (.cells #[.slice D C cc] 27))
  have Hr0 := Lib.hid ((Blk.new_ (w.alloc (.cells #[.slice (some ⟨g, 0, none⟩) n c, .int .i64 o, .int .i64 R, .int .i64 C, .int .i64 L] 24)) 27 #[.slice B R rc] (w.heap.size + 1) (by simp)).alloc (.cells #[.slice D C cc] 27))
  have Hq0 := Lib.hid (Blk.new_ ((w.alloc (.cells #[.slice (some ⟨g, 0, none⟩) n c, .int .i64 o, .int .i64 R, .int .i64 C, .int .i64 L] 24)).alloc (.cells #[.slice B R rc] 27)) 27 #[.slice D C cc] (w.heap.size + 1 + 1) (by simp))
  have HB0 := Lib.hid ((((Below.refl w.heap.size w).alloc (Nat.le_refl _) (.cells #[.slice (some ⟨g, 0, none⟩) n c, .int .i64 o, .int .i64 R, .int .i64 C, .int .i64 L] 24)).alloc (by simp) (.cells #[.slice B R rc] 27)).alloc (by simp; omega) (.cells #[.slice D C cc] 27))
  obtain ⟨m0, m1, m2, m3, m4⟩ := cells5 Hm0.out
  obtain ⟨r0, _⟩ := cells1g Hr0.out
  obtain ⟨q0, _⟩ := cells1g Hq0.out
  go_wp2_with fail
  refine (HG.out _).mono ?_
  rintro e w1 ⟨rfl, hb⟩
  have Hm1 := Lib.hid (Hm0.out.nxt hb)
  have Hr1 := Lib.hid (Hr0.out.nxt hb)
  have Hq1 := Lib.hid (Hq0.out.nxt hb)
  have HB1 := Lib.hid (below_nx HB0.out hb)
  clear hb
  clear m0 m1 m2 m3 m4 r0 q0
  obtain ⟨m0, m1, m2, m3, m4⟩ := cells5 Hm1.out
  obtain ⟨r0, _⟩ := cells1g Hr1.out
  obtain ⟨q0, _⟩ := cells1g Hq1.out
  go_wp2_with fail
  refine (HEa.out _ _ _ HB1.out (by omega) (by omega) r0 q0).mono ?_
  rintro e w6 ⟨rfl, l', hm1, hm2, _, hm3⟩
  have HM := Lib.hid (And.intro hm1 (And.intro hm2 hm3))
  clear hm1 hm2 hm3
  clear m0 m1 m2 m3 m4 r0 q0
  go_wp2_with fail
  go_ret
  exact ⟨rfl, l', HM.out.1, HM.out.2.1, (Chg.of_below HB1.out).trans HM.out.2.2⟩

/-- A slice with room that reads as the list; a new matrix with these numbers. -/
def SlN (W : World) (v : Value) (N : Nat) (X : List Nat) : Prop := ∃ B d, v = .slice B N d ∧ Row W B (f64s X) ∧ N ≤ d
theorem SlN.below {W W' : World} {v : Value} {N : Nat} {X : List Nat} (h : SlN W v N X) (hb : Below W.heap.size W W') : SlN W' v N X := by
  obtain ⟨B, d, e, r, q⟩ := h
  exact ⟨B, d, e, r.below hb, q⟩
def DnS (W : World) (v : Value) (z N C R D : Nat) (X : List Nat) : Prop := ∃ g M, v = .agg #[.slice (some ⟨g, 0, none⟩) N N, .int .i64 0, .int .i64 (C : Int), .int .i64 (R : Int), .int .i64 (D : Int)] ∧ Dense X C R M ∧ Blk W g 45 (f64s M).toArray ∧ z + 2 ≤ g
theorem DnS.below {W W' : World} {v : Value} {z N C R D : Nat} {X : List Nat} (h : DnS W v z N C R D X) (hb : Below W.heap.size W W') : DnS W' v z N C R D X := by
  obtain ⟨g, M, e, h1, h2, h3⟩ := h
  exact ⟨g, M, e, h1, h2.nxt hb, h3⟩
/-- The boxes of Turn, before and behind the last store. -/
def TurnB (w : World) (z : Nat) (mb : Array Value) (N C R D : Nat) (X : List Nat) (b : Bool) (W : World) : Prop :=
  Below z w W ∧ Blk W z 24 mb ∧ (b = false → Blk W (z + 1) 24 #[.slice none 0 0, .int .i64 0, .int .i64 0, .int .i64 0, .int .i64 0]) ∧ (b = true → ∃ g M, Blk W (z + 1) 24 #[.slice (some ⟨g, 0, none⟩) N N, .int .i64 0, .int .i64 (C : Int), .int .i64 (R : Int), .int .i64 (D : Int)] ∧ Dense X C R M ∧ Blk W g 45 (f64s M).toArray ∧ z + 2 ≤ g)
theorem TurnB.nxt {w W W' : World} {z : Nat} {mb : Array Value} {N C R D : Nat} {X : List Nat} {b : Bool} (hz : z = w.heap.size) (h : TurnB w z mb N C R D X b W) (hb : Below W.heap.size W W') : TurnB w z mb N C R D X b W' := by
  subst hz
  refine ⟨below_nx h.1 hb, h.2.1.nxt hb, fun e => (h.2.2.1 e).nxt hb, fun e => ?_⟩
  obtain ⟨g, M, h1, h2, h3, h4⟩ := h.2.2.2 e
  exact ⟨g, M, h1.nxt hb, h2, h3.nxt hb, h4⟩

theorem run_max_natg (P : Program) (ts : Array TypeId) (t : TypeId) (x y : Nat) (w : World) : (Builtin.max_ ts t #[.int .i64 (x : Int), .int .i64 (y : Int)]).run P w = .ok (.int .i64 ((max x y : Nat) : Int)) w := run_max_nat P ts t x y w
attribute [local go_sem ↓] run_max_natg
end Go.Proofs.Ytelpdbkkefpjhaa
