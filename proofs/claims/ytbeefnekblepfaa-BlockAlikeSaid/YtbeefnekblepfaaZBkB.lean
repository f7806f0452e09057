/-
Block: what is right, what fits, parts. Conditions: as each says.
-/
import Derived.Test.YtbeefnekblepfaaZMvF
import Derived.Test.YtbeefnekblepfaaUaal
import Derived.Test.YtbeefnekblepfaaUaam
import Derived.Test.YtbeefnekblepfaaUaah
import Derived.Deep.MidRow
set_option linter.unusedVariables false
set_option linter.unusedSimpArgs false
set_option linter.unnecessarySimpa false
namespace Go.Proofs.Ytbeefnekblepfaa
open Go.RowKit
attribute [local go_sem ↓] Go.wp_at_zero Go.wp_at_succ

theorem cells19 {w : World} {g : Nat} {t : TypeId} {v0 v1 v2 v3 v4 v5 v6 v7 v8 v9 v10 v11 v12 v13 v14 v15 v16 v17 v18 : Value} (h : Blk w g t #[v0, v1, v2, v3, v4, v5, v6, v7, v8, v9, v10, v11, v12, v13, v14, v15, v16, v17, v18]) :
    w.cell? ⟨g, 0, none⟩ = some v0 ∧ w.cell? ⟨g, 1, none⟩ = some v1 ∧ w.cell? ⟨g, 2, none⟩ = some v2 ∧ w.cell? ⟨g, 3, none⟩ = some v3 ∧ w.cell? ⟨g, 4, none⟩ = some v4 ∧ w.cell? ⟨g, 5, none⟩ = some v5 ∧ w.cell? ⟨g, 6, none⟩ = some v6 ∧ w.cell? ⟨g, 7, none⟩ = some v7 ∧ w.cell? ⟨g, 8, none⟩ = some v8 ∧ w.cell? ⟨g, 9, none⟩ = some v9 ∧ w.cell? ⟨g, 10, none⟩ = some v10 ∧ w.cell? ⟨g, 11, none⟩ = some v11 ∧ w.cell? ⟨g, 12, none⟩ = some v12 ∧ w.cell? ⟨g, 13, none⟩ = some v13 ∧ w.cell? ⟨g, 14, none⟩ = some v14 ∧ w.cell? ⟨g, 15, none⟩ = some v15 ∧ w.cell? ⟨g, 16, none⟩ = some v16 ∧ w.cell? ⟨g, 17, none⟩ = some v17 ∧ w.cell? ⟨g, 18, none⟩ = some v18 :=
  ⟨h.cell 0, h.cell 1, h.cell 2, h.cell 3, h.cell 4, h.cell 5, h.cell 6, h.cell 7, h.cell 8, h.cell 9, h.cell 10, h.cell 11, h.cell 12, h.cell 13, h.cell 14, h.cell 15, h.cell 16, h.cell 17, h.cell 18⟩
theorem cells2j {w : World} {g : Nat} {t : TypeId} {v0 v1 : Value} (h : Blk w g t #[v0, v1]) : w.cell? ⟨g, 0, none⟩ = some v0 ∧ w.cell? ⟨g, 1, none⟩ = some v1 := ⟨h.cell 0, h.cell 1⟩
theorem blk_there {w : World} {g : Nat} {t : TypeId} {cs : Array Value} (h : Blk w g t cs) : w.there g 0 cs.size := fun j hj => by
  have h1 := h.cell j
  rw [Array.getElem?_eq_getElem hj] at h1
  rw [Nat.zero_add]
  exact ⟨by rw [h1]; rfl, h.frozen j⟩
theorem blk_setRow {g : Nat} {t : TypeId} : ∀ (zs cur pre : List Value) (w : World), cur.length = zs.length → Blk w g t (pre ++ cur).toArray → Blk (w.setCells g pre.length zs) g t (pre ++ zs).toArray
  | [], cur, pre, w, hl, h => by
    obtain rfl : cur = [] := List.length_eq_zero_iff.1 (by simpa using hl)
    exact h
  | z :: zs, [], pre, w, hl, h => by simp at hl
  | z :: zs, c :: cur, pre, w, hl, h => by
    have h1 := h.set_ pre.length z
    have h2 : Blk (w.setCell ⟨g, pre.length, none⟩ z) g t ((pre ++ [z]) ++ cur).toArray := by simpa using h1
    have h3 := blk_setRow zs cur (pre ++ [z]) _ (by simpa using hl) h2
    rw [World.setCells]
    simpa using h3
theorem blk_setElse {g b : Nat} {t : TypeId} {cs : Array Value} (hne : b ≠ g) : ∀ (zs : List Value) (o : Nat) (w : World), Blk w b t cs → Blk (w.setCells g o zs) b t cs
  | [], _, _, h => h
  | z :: zs, o, w, h => blk_setElse hne zs (o + 1) _ (h.other (p := ⟨g, o, none⟩) (by simpa using hne) z)
theorem below_setRow {g B : Nat} {w0 : World} (hB : B ≤ g) : ∀ (zs : List Value) (o : Nat) (w : World), Below B w0 w → Below B w0 (w.setCells g o zs)
  | [], _, _, h => h
  | z :: zs, o, w, h => below_setRow hB zs (o + 1) _ (h.setCell (p := ⟨g, o, none⟩) hB z)
/-- A struct is loaded whole. -/
theorem wpList_load_blk {P : Program} {ops : Array Oper} {rest : List Oper} {op : Oper} {a : Act} {w : World} {Q : Exit → Act → World → Prop} (hgd : op.guard = none) (ty : TypeId) (x : Operand) (ho : op.op = .load ty x) (b : Nat) (hx : a.eval x = .pointer (some ⟨b, 0, none⟩)) {t : TypeId} {cells : Array Value} (hB : Blk w b t cells)
    (d : TypeDesc) (hu : P.underlying ty = some d) (hd : d.isRow = true) (hi : (P.info? ty).map (·.size) = some cells.size) (h : wpList P ops Q rest (a.put op.dst (.agg cells)) w) : wpList P ops Q (op :: rest) a w :=
  wpList_load_mid hgd ty x ho b 0 hx cells.toList d (fun j u hj => by
    rw [Nat.zero_add, hB.cell j, ← Array.getElem?_toList]
    exact hj) hu hd (by simpa using hi) (by simpa using h)
/-- A struct is stored where one of as many cells lies. -/
theorem wpList_store_new {P : Program} {ops : Array Oper} {rest : List Oper} {op : Oper} {a : Act} {w : World} {Q : Exit → Act → World → Prop} (hgd : op.guard = none) (ty : TypeId) (x y : Operand) (ho : op.op = .store ty x y) (b : Nat) (cells : Array Value) (hx : a.eval x = .pointer (some ⟨b, 0, none⟩)) (hy : a.eval y = .agg cells)
    {t : TypeId} {cur : Array Value} (hB : Blk w b t cur) (hs : cur.size = cells.size) (hi : (P.info? ty).map (·.size) = some cells.size) (h1 : cells.all (·.oneCell') = true)
    (h : ∀ w', Blk w' b t cells → (∀ g t' cs, g ≠ b → Blk w g t' cs → Blk w' g t' cs) → (∀ B w0, B ≤ b → Below B w0 w → Below B w0 w') → wpList P ops Q rest (a.put op.dst undef) w') : wpList P ops Q (op :: rest) a w :=
  wpList_store_mid hgd ty x y ho b 0 cells hx hy (hs ▸ blk_there hB) hi h1 (h _ (by
    have h2 := blk_setRow cells.toList cur.toList [] w (by simpa using hs) (by simpa using hB)
    simpa using h2) (fun g t' cs hne hb => blk_setElse hne _ _ _ hb) (fun B w0 hle hb => below_setRow hle _ _ _ hb))
/-- Are all sizes from 1 on? -/
def sizB (s1 s2 s3 : Int) : Bool := decide (1 ≤ s1 ∧ 1 ≤ s2 ∧ 1 ≤ s3)
theorem bkright_any (s1 s2 s3 : Int) (w : World) :
    Calls Try.prog 11 #[.agg #[.int .i64 s1, .int .i64 s2, .int .i64 s3]] w fun e w' => e = .returned (.bool (sizB s1 s2 s3)) ∧ Below w.heap.size w w' := by
  have HB := Lib.hid ((Below.refl w.heap.size w).alloc (Nat.le_refl _) (.cells #[.int .i64 s1, .int .i64 s2, .int .i64 s3] 31))
  have HZ := Lib.hid (Blk.new w 31 #[.int .i64 s1, .int .i64 s2, .int .i64 s3])
  obtain ⟨z0, z1, z2⟩ := cells3v HZ.out
  go_enter Try.func11, Try.ntmps11
  go_wp2_with fail
  all_goals
    go_ret
    exact ⟨ret_bool (by unfold sizB; apply Bool.eq_iff_iff.2; simp; omega), HB.out⟩

set_option maxHeartbeats 4000000 in
/-- Why a product doesn't fit: the first of what isn't right, sizes that differ, lists that meet. -/
theorem bkfits_any (s1 s2 s3 : Int) (a : Nat) (Ax : Option Addr) (nx cx : Nat) (xo xr xk xl : Int) (Ay : Option Addr) (ny cy : Nat) (yo yr yk yl : Int) (Az : Option Addr) (nz cz : Nat) (zo zr zk zl : Int) (E : Int) (w : World) (b0 b1 b2 b3 q1 q2 q3 m1 m2 : Bool) (e0 : sizB s1 s2 s3 = b0)
    (hGx : ∀ W, Calls Try.prog 31 #[mat Ax nx cx xo xr xk xl] W fun e w' => e = .returned (.bool b1) ∧ Below W.heap.size W w')
    (hGy : ∀ W, Calls Try.prog 31 #[mat Ay ny cy yo yr yk yl] W fun e w' => e = .returned (.bool b2) ∧ Below W.heap.size W w')
    (hGz : ∀ W, Calls Try.prog 31 #[mat Az nz cz zo zr zk zl] W fun e w' => e = .returned (.bool b3) ∧ Below W.heap.size W w')
    (h1 : (xk != yr) = q1) (h2 : (zr != xr) = q2) (h3 : (zk != yk) = q3)
    (hM1 : (b0 && b1 && b2 && b3) = true → (q1 || q2 || q3) = false → ∀ W, Below w.heap.size w W → Calls Try.prog 32 #[mat Az nz cz zo zr zk zl, mat Ax nx cx xo xr xk xl] W fun e w' => e = .returned (.bool m1) ∧ Below W.heap.size W w')
    (hM2 : (b0 && b1 && b2 && b3) = true → (q1 || q2 || q3) = false → m1 = false → ∀ W, Below w.heap.size w W → Calls Try.prog 32 #[mat Az nz cz zo zr zk zl, mat Ay ny cy yo yr yk yl] W fun e w' => e = .returned (.bool m2) ∧ Below W.heap.size W w')
    (hE : E = if (b0 && b1 && b2 && b3) = false then 1 else if (q1 || q2 || q3) = true then 3 else if (m1 || m2) = true then 2 else 0) :
    Calls Try.prog 18 #[.agg #[.int .i64 s1, .int .i64 s2, .int .i64 s3, .float .f64 a, .slice Ax nx cx, .int .i64 xo, .int .i64 xr, .int .i64 xk, .int .i64 xl, .slice Ay ny cy, .int .i64 yo, .int .i64 yr, .int .i64 yk, .int .i64 yl, .slice Az nz cz, .int .i64 zo, .int .i64 zr, .int .i64 zk, .int .i64 zl]] w fun e w' => e = .returned (.int .i64 E) ∧ Below w.heap.size w w' := by
  have HR := Lib.hid (fun W => bkright_any s1 s2 s3 W)
  rw [e0] at HR
  have HGx := Lib.hid hGx
  have HGy := Lib.hid hGy
  have HGz := Lib.hid hGz
  have HM1 := Lib.hid hM1
  have HM2 := Lib.hid hM2
  clear hGx hGy hGz hM1 hM2 e0
  have HB := Lib.hid ((Below.refl w.heap.size w).alloc (Nat.le_refl _) (.cells #[.int .i64 s1, .int .i64 s2, .int .i64 s3, .float .f64 a, .slice Ax nx cx, .int .i64 xo, .int .i64 xr, .int .i64 xk, .int .i64 xl, .slice Ay ny cy, .int .i64 yo, .int .i64 yr, .int .i64 yk, .int .i64 yl, .slice Az nz cz, .int .i64 zo, .int .i64 zr, .int .i64 zk, .int .i64 zl] 48))
  have HZ := Lib.hid (Blk.new w 48 #[.int .i64 s1, .int .i64 s2, .int .i64 s3, .float .f64 a, .slice Ax nx cx, .int .i64 xo, .int .i64 xr, .int .i64 xk, .int .i64 xl, .slice Ay ny cy, .int .i64 yo, .int .i64 yr, .int .i64 yk, .int .i64 yl, .slice Az nz cz, .int .i64 zo, .int .i64 zr, .int .i64 zk, .int .i64 zl])
  have key : b0 = false ∨ (b0 = true ∧ b1 = false) ∨ (b0 = true ∧ b1 = true ∧ b2 = false) ∨ (b0 = true ∧ b1 = true ∧ b2 = true ∧ b3 = false) ∨ (b0 = true ∧ b1 = true ∧ b2 = true ∧ b3 = true ∧ q1 = true) ∨ (b0 = true ∧ b1 = true ∧ b2 = true ∧ b3 = true ∧ q1 = false ∧ q2 = true) ∨ (b0 = true ∧ b1 = true ∧ b2 = true ∧ b3 = true ∧ q1 = false ∧ q2 = false ∧ q3 = true) ∨ (b0 = true ∧ b1 = true ∧ b2 = true ∧ b3 = true ∧ q1 = false ∧ q2 = false ∧ q3 = false ∧ m1 = true) ∨ (b0 = true ∧ b1 = true ∧ b2 = true ∧ b3 = true ∧ q1 = false ∧ q2 = false ∧ q3 = false ∧ m1 = false) := by
    cases b0 <;> cases b1 <;> cases b2 <;> cases b3 <;> cases q1 <;> cases q2 <;> cases q3 <;> cases m1 <;> simp
  unfold mat at *
  rcases key with rfl | ⟨rfl, rfl⟩ | ⟨rfl, rfl, rfl⟩ | ⟨rfl, rfl, rfl, rfl⟩ | ⟨rfl, rfl, rfl, rfl, rfl⟩ | ⟨rfl, rfl, rfl, rfl, rfl, rfl⟩ | ⟨rfl, rfl, rfl, rfl, rfl, rfl, rfl⟩ | ⟨rfl, rfl, rfl, rfl, rfl, rfl, rfl, rfl⟩ | ⟨rfl, rfl, rfl, rfl, rfl, rfl, rfl, rfl⟩
  all_goals
    simp only [Bool.false_and, Bool.true_and, Bool.and_false, Bool.and_true, Bool.false_or, Bool.true_or, Bool.or_false, Bool.or_true, if_true, if_false, Bool.true_eq_false, Bool.false_eq_true] at hE
    obtain ⟨z0, z1, z2, z3, z4, z5, z6, z7, z8, z9, z10, z11, z12, z13, z14, z15, z16, z17, z18⟩ := cells19 HZ.out
  -- the last one answers m2
  rotate_left 8
  · have HX := Lib.hid (HM1.out rfl rfl)
    have HY := Lib.hid (HM2.out rfl rfl rfl)
    clear HM1 HM2
    cases m2
    all_goals
      simp only [if_true, if_false, Bool.true_eq_false, Bool.false_eq_true] at hE
      subst hE
      go_enter Try.func18, Try.ntmps18
      repeat
        go_wp2_with fail
        first | with_reducible refine (HR.out _).mono ?_ | with_reducible refine (HGx.out _).mono ?_ | with_reducible refine (HGy.out _).mono ?_ | with_reducible refine (HGz.out _).mono ?_ | with_reducible refine (HX.out _ HB.out).mono ?_ | with_reducible refine (HY.out _ HB.out).mono ?_
        rintro e w1 ⟨rfl, hb⟩
        replace HZ := Lib.hid (HZ.out.nxt hb)
        replace HB := Lib.hid (below_nx HB.out hb)
        clear hb z0 z1 z2 z3 z4 z5 z6 z7 z8 z9 z10 z11 z12 z13 z14 z15 z16 z17 z18
        obtain ⟨z0, z1, z2, z3, z4, z5, z6, z7, z8, z9, z10, z11, z12, z13, z14, z15, z16, z17, z18⟩ := cells19 HZ.out
      go_wp2_with fail
      go_ret
      exact ⟨rfl, HB.out⟩
  all_goals
    subst hE
    first | (have HX := Lib.hid (HM1.out rfl rfl); clear HM1 HM2) | (have HX := Lib.hid True.intro; clear HM1 HM2)
    go_enter Try.func18, Try.ntmps18
    repeat
      go_wp2_with fail
      first | with_reducible refine (HR.out _).mono ?_ | with_reducible refine (HGx.out _).mono ?_ | with_reducible refine (HGy.out _).mono ?_ | with_reducible refine (HGz.out _).mono ?_ | with_reducible refine (HX.out _ HB.out).mono ?_
      rintro e w1 ⟨rfl, hb⟩
      replace HZ := Lib.hid (HZ.out.nxt hb)
      replace HB := Lib.hid (below_nx HB.out hb)
      clear hb z0 z1 z2 z3 z4 z5 z6 z7 z8 z9 z10 z11 z12 z13 z14 z15 z16 z17 z18
      obtain ⟨z0, z1, z2, z3, z4, z5, z6, z7, z8, z9, z10, z11, z12, z13, z14, z15, z16, z17, z18⟩ := cells19 HZ.out
    go_wp2_with fail
    go_ret
    exact ⟨rfl, HB.out⟩

set_option maxHeartbeats 2000000 in
theorem bkpart_any (A : Option Addr) (n c : Nat) (off r k ld i j rows cols : Int) (p : Int) (w : World)
    (hP : ∀ W, Calls Try.prog 34 #[mat A n c off r k ld, .int .i64 i, .int .i64 j, .int .i64 rows, .int .i64 cols] W fun e w' => e = .returned (mat A n c p rows cols ld) ∧ Below W.heap.size W w') :
    Calls Try.prog 36 #[mat A n c off r k ld, .agg #[.int .i64 i, .int .i64 rows], .agg #[.int .i64 j, .int .i64 cols]] w fun e w' => e = .returned (mat A n c p rows cols ld) ∧ Below w.heap.size w w' := by
  have HP := Lib.hid hP
  clear hP
  unfold mat at *
  go_enter Try.func36, Try.ntmps36
  have HZ0 := Lib.hid ((((Blk.new w 26 #[.slice A n c, .int .i64 off, .int .i64 r, .int .i64 k, .int .i64 ld]).alloc (.cells #[.int .i64 i, .int .i64 rows] 64)).alloc (.cells #[.int .i64 j, .int .i64 cols] 64)).alloc (.cells #[.slice none 0 0, .int .i64 0, .int .i64 0, .int .i64 0, .int .i64 0] 26))
  have HI0 := Lib.hid (((Blk.new_ (w.alloc (.cells #[.slice A n c, .int .i64 off, .int .i64 r, .int .i64 k, .int .i64 ld] 26)) 64 #[.int .i64 i, .int .i64 rows] (w.heap.size + 1) (by simp)).alloc (.cells #[.int .i64 j, .int .i64 cols] 64)).alloc (.cells #[.slice none 0 0, .int .i64 0, .int .i64 0, .int .i64 0, .int .i64 0] 26))
  have HJ0 := Lib.hid ((Blk.new_ ((w.alloc (.cells #[.slice A n c, .int .i64 off, .int .i64 r, .int .i64 k, .int .i64 ld] 26)).alloc (.cells #[.int .i64 i, .int .i64 rows] 64)) 64 #[.int .i64 j, .int .i64 cols] (w.heap.size + 1 + 1) (by simp)).alloc (.cells #[.slice none 0 0, .int .i64 0, .int .i64 0, .int .i64 0, .int .i64 0] 26))
  have HR0 := Lib.hid (Blk.new_ (((w.alloc (.cells #[.slice A n c, .int .i64 off, .int .i64 r, .int .i64 k, .int .i64 ld] 26)).alloc (.cells #[.int .i64 i, .int .i64 rows] 64)).alloc (.cells #[.int .i64 j, .int .i64 cols] 64)) 26 #[.slice none 0 0, .int .i64 0, .int .i64 0, .int .i64 0, .int .i64 0] (w.heap.size + 1 + 1 + 1) (by simp))
  have HB0 := Lib.hid (((((Below.refl w.heap.size w).alloc (Nat.le_refl _) (.cells #[.slice A n c, .int .i64 off, .int .i64 r, .int .i64 k, .int .i64 ld] 26)).alloc (by simp) (.cells #[.int .i64 i, .int .i64 rows] 64)).alloc (by simp; omega) (.cells #[.int .i64 j, .int .i64 cols] 64)).alloc (by simp; omega) (.cells #[.slice none 0 0, .int .i64 0, .int .i64 0, .int .i64 0, .int .i64 0] 26))
  obtain ⟨z0, z1, z2, z3, z4⟩ := cells5 HZ0.out
  obtain ⟨i0, i1⟩ := cells2j HI0.out
  obtain ⟨j0, j1⟩ := cells2j HJ0.out
  go_wp2_with fail
  refine (HP.out _).mono ?_
  rintro e w1 ⟨rfl, hb⟩
  have HR1 := Lib.hid (HR0.out.nxt hb)
  have HB1 := Lib.hid (below_nx HB0.out hb)
  clear hb z0 z1 z2 z3 z4 i0 i1 j0 j1
  obtain ⟨f0, f1, f2, f3, f4⟩ := frozen5 HR1.out
  obtain ⟨d0, d1, d2, d3, d4⟩ := cells5 HR1.out
  have HSt := Lib.hid (HR1.out.store5 (.slice A n c) (.int .i64 p) (.int .i64 rows) (.int .i64 cols) (.int .i64 ld))
  have HBe := Lib.hid (below_sets5 HB1.out (show w.heap.size ≤ w.heap.size + 1 + 1 + 1 by omega) (.slice A n c) (.int .i64 p) (.int .i64 rows) (.int .i64 cols) (.int .i64 ld))
  go_wp2_with fail
  obtain ⟨k0, k1, k2, k3, k4⟩ := cells5 HSt.out
  exact bodyPost_ret (v := mat A n c p rows cols ld) (by simp [results, Try.results36, go_sem, k0, k1, k2, k3, k4, mat]) rfl ⟨rfl, HBe.out⟩
end Go.Proofs.Ytbeefnekblepfaa
