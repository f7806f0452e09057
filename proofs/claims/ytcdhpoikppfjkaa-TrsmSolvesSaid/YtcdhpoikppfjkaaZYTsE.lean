/-
Trsm: parts, columns; solve, times. Conditions: as each says.
-/
import Derived.Test.YtcdhpoikppfjkaaZYTsB
import Derived.Test.YtcdhpoikppfjkaaZYGvB
import Derived.Test.YtcdhpoikppfjkaaWaai
import Derived.Test.YtcdhpoikppfjkaaWaah
set_option linter.unusedVariables false
set_option linter.unusedSimpArgs false
set_option linter.unnecessarySimpa false
namespace Go.Proofs.Ytcdhpoikppfjkaa
open Go.RowKit
attribute [local go_sem ↓] Go.wp_at_zero Go.wp_at_succ

theorem cells2j {w : World} {g : Nat} {t : TypeId} {v0 v1 : Value} (h : Blk w g t #[v0, v1]) : w.cell? ⟨g, 0, none⟩ = some v0 ∧ w.cell? ⟨g, 1, none⟩ = some v1 := ⟨h.cell 0, h.cell 1⟩
theorem kpvb {d : Nat → Bool} {i j : Nat} {s : Nat → Value} {k : Nat} {dst : Option Nat} {v x : Value} (h : d j = true → s k = x) (hj : j ≠ i) (hk : dst ≠ some k) : did d i j = true → sput s dst v k = x := fun e => by
  rw [did_ne d hj] at e
  unfold sput
  rw [if_neg hk]
  exact h e
theorem kpwb {d : Nat → Bool} {i j : Nat} {s : Nat → Value} {k : Nat} {dst : Option Nat} {v x : Value} (h : d j = true → s k = x) (hj : j ≠ i := by decide) (hk : dst ≠ some k := by decide) : did d i j = true → sput s dst v k = x := kpvb h hj hk

set_option maxHeartbeats 2000000 in
theorem tswithin_any (kd : Int) (A : Option Addr) (n c : Nat) (o r k ld : Int) (A2 : Option Addr) (n2 c2 : Nat) (o2 r2 k2 ld2 : Int) (i j rows cols p : Int) (w : World)
    (hP : ∀ W, Calls Try.prog 53 #[mat A n c o r k ld, .int .i64 i, .int .i64 j, .int .i64 rows, .int .i64 cols] W fun e w' => e = .returned (mat A n c p rows cols ld) ∧ Below W.heap.size W w') :
    Calls Try.prog 35 #[.agg #[.int .i64 kd, .slice A n c, .int .i64 o, .int .i64 r, .int .i64 k, .int .i64 ld, .slice A2 n2 c2, .int .i64 o2, .int .i64 r2, .int .i64 k2, .int .i64 ld2], .agg #[.int .i64 i, .int .i64 rows], .agg #[.int .i64 j, .int .i64 cols]] w fun e w' => e = .returned (mat A n c p rows cols ld) ∧ Below w.heap.size w w' := by
  have HP := Lib.hid hP
  clear hP
  unfold mat at *
  go_enter Try.func35, Try.ntmps35
  have HZ0 := Lib.hid ((((Blk.new w 45 #[.int .i64 kd, .slice A n c, .int .i64 o, .int .i64 r, .int .i64 k, .int .i64 ld, .slice A2 n2 c2, .int .i64 o2, .int .i64 r2, .int .i64 k2, .int .i64 ld2]).alloc (.cells #[.int .i64 i, .int .i64 rows] 49)).alloc (.cells #[.int .i64 j, .int .i64 cols] 49)).alloc (.cells #[.slice none 0 0, .int .i64 0, .int .i64 0, .int .i64 0, .int .i64 0] 24))
  have HI0 := Lib.hid (((Blk.new_ (w.alloc (.cells #[.int .i64 kd, .slice A n c, .int .i64 o, .int .i64 r, .int .i64 k, .int .i64 ld, .slice A2 n2 c2, .int .i64 o2, .int .i64 r2, .int .i64 k2, .int .i64 ld2] 45)) 49 #[.int .i64 i, .int .i64 rows] (w.heap.size + 1) (by simp)).alloc (.cells #[.int .i64 j, .int .i64 cols] 49)).alloc (.cells #[.slice none 0 0, .int .i64 0, .int .i64 0, .int .i64 0, .int .i64 0] 24))
  have HJ0 := Lib.hid ((Blk.new_ ((w.alloc (.cells #[.int .i64 kd, .slice A n c, .int .i64 o, .int .i64 r, .int .i64 k, .int .i64 ld, .slice A2 n2 c2, .int .i64 o2, .int .i64 r2, .int .i64 k2, .int .i64 ld2] 45)).alloc (.cells #[.int .i64 i, .int .i64 rows] 49)) 49 #[.int .i64 j, .int .i64 cols] (w.heap.size + 1 + 1) (by simp)).alloc (.cells #[.slice none 0 0, .int .i64 0, .int .i64 0, .int .i64 0, .int .i64 0] 24))
  have HR0 := Lib.hid (Blk.new_ (((w.alloc (.cells #[.int .i64 kd, .slice A n c, .int .i64 o, .int .i64 r, .int .i64 k, .int .i64 ld, .slice A2 n2 c2, .int .i64 o2, .int .i64 r2, .int .i64 k2, .int .i64 ld2] 45)).alloc (.cells #[.int .i64 i, .int .i64 rows] 49)).alloc (.cells #[.int .i64 j, .int .i64 cols] 49)) 24 #[.slice none 0 0, .int .i64 0, .int .i64 0, .int .i64 0, .int .i64 0] (w.heap.size + 1 + 1 + 1) (by simp))
  have HB0 := Lib.hid (((((Below.refl w.heap.size w).alloc (Nat.le_refl _) (.cells #[.int .i64 kd, .slice A n c, .int .i64 o, .int .i64 r, .int .i64 k, .int .i64 ld, .slice A2 n2 c2, .int .i64 o2, .int .i64 r2, .int .i64 k2, .int .i64 ld2] 45)).alloc (by simp) (.cells #[.int .i64 i, .int .i64 rows] 49)).alloc (by simp; omega) (.cells #[.int .i64 j, .int .i64 cols] 49)).alloc (by simp; omega) (.cells #[.slice none 0 0, .int .i64 0, .int .i64 0, .int .i64 0, .int .i64 0] 24))
  obtain ⟨z0, z1, z2, z3, z4, z5, z6, z7, z8, z9, z10⟩ := cells11 HZ0.out
  obtain ⟨i0, i1⟩ := cells2j HI0.out
  obtain ⟨j0, j1⟩ := cells2j HJ0.out
  go_wp2_with fail
  refine (HP.out _).mono ?_
  rintro e w1 ⟨rfl, hb⟩
  have HR1 := Lib.hid (HR0.out.nxt hb)
  have HB1 := Lib.hid (below_nx HB0.out hb)
  clear hb z0 z1 z2 z3 z4 z5 z6 z7 z8 z9 z10 i0 i1 j0 j1
  obtain ⟨f0, f1, f2, f3, f4⟩ := frozen5 HR1.out
  obtain ⟨d0, d1, d2, d3, d4⟩ := cells5 HR1.out
  have HSt := Lib.hid (HR1.out.store5 (.slice A n c) (.int .i64 p) (.int .i64 rows) (.int .i64 cols) (.int .i64 ld))
  have HBe := Lib.hid (below_sets5 HB1.out (show w.heap.size ≤ w.heap.size + 1 + 1 + 1 by omega) (.slice A n c) (.int .i64 p) (.int .i64 rows) (.int .i64 cols) (.int .i64 ld))
  go_wp2_with fail
  obtain ⟨k0, k1, k2, k3, k4⟩ := cells5 HSt.out
  exact bodyPost_ret (v := mat A n c p rows cols ld) (by simp [results, Try.results35, go_sem, k0, k1, k2, k3, k4, mat]) rfl ⟨rfl, HBe.out⟩

set_option maxHeartbeats 2000000 in
theorem tscolumn_any (kd : Int) (A : Option Addr) (n c : Nat) (o r k ld : Int) (A2 : Option Addr) (n2 c2 : Nat) (o2 r2 k2 ld2 : Int) (i rows j p q : Int) (w : World)
    (hP : ∀ W, Calls Try.prog 53 #[mat A2 n2 c2 o2 r2 k2 ld2, .int .i64 i, .int .i64 j, .int .i64 rows, .int .i64 1] W fun e w' => e = .returned (mat A2 n2 c2 p rows 1 ld2) ∧ Below W.heap.size W w')
    (hC : ∀ W, Calls Try.prog 54 #[mat A2 n2 c2 p rows 1 ld2, .int .i64 0] W fun e w' => e = .returned (vec A2 n2 c2 q rows 1) ∧ Below W.heap.size W w') :
    Calls Try.prog 36 #[.agg #[.int .i64 kd, .slice A n c, .int .i64 o, .int .i64 r, .int .i64 k, .int .i64 ld, .slice A2 n2 c2, .int .i64 o2, .int .i64 r2, .int .i64 k2, .int .i64 ld2], .agg #[.int .i64 i, .int .i64 rows], .int .i64 j] w fun e w' => e = .returned (vec A2 n2 c2 q rows 1) ∧ Below w.heap.size w w' := by
  have HP := Lib.hid hP
  have HC := Lib.hid hC
  clear hP hC
  unfold mat vec at *
  go_enter Try.func36, Try.ntmps36
  have HZ0 := Lib.hid (((Blk.new w 45 #[.int .i64 kd, .slice A n c, .int .i64 o, .int .i64 r, .int .i64 k, .int .i64 ld, .slice A2 n2 c2, .int .i64 o2, .int .i64 r2, .int .i64 k2, .int .i64 ld2]).alloc (.cells #[.int .i64 i, .int .i64 rows] 49)).alloc (.cells #[.slice none 0 0, .int .i64 0, .int .i64 0, .int .i64 0] 66))
  have HI0 := Lib.hid ((Blk.new_ (w.alloc (.cells #[.int .i64 kd, .slice A n c, .int .i64 o, .int .i64 r, .int .i64 k, .int .i64 ld, .slice A2 n2 c2, .int .i64 o2, .int .i64 r2, .int .i64 k2, .int .i64 ld2] 45)) 49 #[.int .i64 i, .int .i64 rows] (w.heap.size + 1) (by simp)).alloc (.cells #[.slice none 0 0, .int .i64 0, .int .i64 0, .int .i64 0] 66))
  have HR0 := Lib.hid (Blk.new_ ((w.alloc (.cells #[.int .i64 kd, .slice A n c, .int .i64 o, .int .i64 r, .int .i64 k, .int .i64 ld, .slice A2 n2 c2, .int .i64 o2, .int .i64 r2, .int .i64 k2, .int .i64 ld2] 45)).alloc (.cells #[.int .i64 i, .int .i64 rows] 49)) 66 #[.slice none 0 0, .int .i64 0, .int .i64 0, .int .i64 0] (w.heap.size + 1 + 1) (by simp))
  have HB0 := Lib.hid ((((Below.refl w.heap.size w).alloc (Nat.le_refl _) (.cells #[.int .i64 kd, .slice A n c, .int .i64 o, .int .i64 r, .int .i64 k, .int .i64 ld, .slice A2 n2 c2, .int .i64 o2, .int .i64 r2, .int .i64 k2, .int .i64 ld2] 45)).alloc (by simp) (.cells #[.int .i64 i, .int .i64 rows] 49)).alloc (by simp; omega) (.cells #[.slice none 0 0, .int .i64 0, .int .i64 0, .int .i64 0] 66))
  obtain ⟨z0, z1, z2, z3, z4, z5, z6, z7, z8, z9, z10⟩ := cells11 HZ0.out
  obtain ⟨i0, i1⟩ := cells2j HI0.out
  go_wp2_with fail
  refine (HP.out _).mono ?_
  rintro e w1 ⟨rfl, hb⟩
  have HR1 := Lib.hid (HR0.out.nxt hb)
  have HB1 := Lib.hid (below_nx HB0.out hb)
  clear hb z0 z1 z2 z3 z4 z5 z6 z7 z8 z9 z10 i0 i1
  go_wp2_with fail
  refine (HC.out _).mono ?_
  rintro e w2 ⟨rfl, hb⟩
  have HR2 := Lib.hid (HR1.out.nxt hb)
  have HB2 := Lib.hid (below_nx HB1.out hb)
  clear hb
  obtain ⟨f0, f1, f2, f3⟩ := frozen4w HR2.out
  obtain ⟨d0, d1, d2, d3⟩ := cells4w HR2.out
  have HSt := Lib.hid (HR2.out.store4v (.slice A2 n2 c2) (.int .i64 q) (.int .i64 rows) (.int .i64 1))
  have HBe := Lib.hid (below_sets4 HB2.out (show w.heap.size ≤ w.heap.size + 1 + 1 by omega) (.slice A2 n2 c2) (.int .i64 q) (.int .i64 rows) (.int .i64 1))
  go_wp2_with fail
  obtain ⟨k0, k1, k2, k3⟩ := cells4w HSt.out
  exact bodyPost_ret (v := vec A2 n2 c2 q rows 1) (by simp [results, Try.results36, go_sem, k0, k1, k2, k3, vec]) rfl ⟨rfl, HBe.out⟩
/-- Where a part begins. -/
def pOf (o L i j rn cn : Nat) : Nat := if rn = 0 ∨ cn = 0 then o else o + i + j * L
theorem pOf_pos {o L i j rn cn : Nat} (h1 : 0 < rn) (h2 : 0 < cn) : pOf o L i j rn cn = o + i + j * L := by unfold pOf; rw [if_neg (by omega)]
theorem pOf_part (o L i j rn cn : Nat) : partOff (o : Int) (L : Int) (i : Int) (j : Int) (rn : Int) (cn : Int) = ((pOf o L i j rn cn : Nat) : Int) := by
  unfold partOff pOf
  by_cases h : rn = 0 ∨ cn = 0
  · rw [if_pos (by omega), if_pos h]
  · rw [if_neg (by omega), if_neg h]; simp
theorem tspart (A : Option Addr) (n c o R C L i j rn cn : Nat) (hn : n < 1048576) (hoI : I64 o) (hLI : I64 L) (hRb : R < 1048576) (hCb : C < 1048576) (hL1 : 1 ≤ L) (hRL : R ≤ L) (hr : R = 0 ∨ C = 0 ∨ o + (C - 1) * L + (R - 1) < n) (h3 : i + rn ≤ R) (h4 : j + cn ≤ C) (w : World) :
    Calls Try.prog 53 #[mat A n c o R C L, .int .i64 i, .int .i64 j, .int .i64 rn, .int .i64 cn] w fun e w' => e = .returned (mat A n c ((pOf o L i j rn cn : Nat) : Int) rn cn L) ∧ Below w.heap.size w w' := by
  have hm := mat_right hL1 hRL hr
  have h := part_some A n c o R C L i j rn cn w (by omega) hoI (by unfold I64; omega) (by unfold I64; omega) hLI (by unfold I64; omega) (by unfold I64; omega) (by unfold I64; omega) (by unfold I64; omega) (by
    unfold partB fitsB
    rw [hm]
    simp
    omega)
  rw [pOf_part] at h
  exact h
theorem pOf_right {n o R C L i j rn cn : Nat} (hRL : R ≤ L) (hr : R = 0 ∨ C = 0 ∨ o + (C - 1) * L + (R - 1) < n) (h3 : i + rn ≤ R) (h4 : j + cn ≤ C) : rn = 0 ∨ cn = 0 ∨ pOf o L i j rn cn + (cn - 1) * L + (rn - 1) < n := by
  by_cases h : rn = 0 ∨ cn = 0
  · omega
  · have h1 : (j + (cn - 1)) * L ≤ (C - 1) * L := Nat.mul_le_mul_right L (by omega)
    rw [Nat.add_mul] at h1
    rw [pOf_pos (by omega) (by omega)]
    rcases hr with hr | hr | hr <;> omega
theorem pOf_I64 {n o R C L i j rn cn : Nat} (hn : n < 1048576) (hoI : I64 o) (hRL : R ≤ L) (hr : R = 0 ∨ C = 0 ∨ o + (C - 1) * L + (R - 1) < n) (h3 : i + rn ≤ R) (h4 : j + cn ≤ C) : I64 ((pOf o L i j rn cn : Nat) : Int) := by
  have h := pOf_right hRL hr h3 h4
  by_cases h1 : rn = 0 ∨ cn = 0
  · unfold pOf; rw [if_pos h1]; exact hoI
  · unfold I64; omega
theorem tswithin_nat (kd : Int) (A : Option Addr) (n c o R C L : Nat) (A2 : Option Addr) (n2 c2 : Nat) (o2 r2 k2 ld2 : Int) (i j rn cn : Nat) (hn : n < 1048576) (hoI : I64 o) (hLI : I64 L) (hRb : R < 1048576) (hCb : C < 1048576) (hL1 : 1 ≤ L) (hRL : R ≤ L) (hr : R = 0 ∨ C = 0 ∨ o + (C - 1) * L + (R - 1) < n) (h3 : i + rn ≤ R) (h4 : j + cn ≤ C) (w : World) :
    Calls Try.prog 35 #[.agg #[.int .i64 kd, .slice A n c, .int .i64 (o : Int), .int .i64 (R : Int), .int .i64 (C : Int), .int .i64 (L : Int), .slice A2 n2 c2, .int .i64 o2, .int .i64 r2, .int .i64 k2, .int .i64 ld2], .agg #[.int .i64 (i : Int), .int .i64 (rn : Int)], .agg #[.int .i64 (j : Int), .int .i64 (cn : Int)]] w fun e w' => e = .returned (mat A n c ((pOf o L i j rn cn : Nat) : Int) rn cn L) ∧ Below w.heap.size w w' :=
  tswithin_any kd A n c o R C L A2 n2 c2 o2 r2 k2 ld2 i j rn cn _ w fun W => tspart A n c o R C L i j rn cn hn hoI hLI hRb hCb hL1 hRL hr h3 h4 W
theorem tscolumn_nat (kd : Int) (A : Option Addr) (n c : Nat) (o r k ld : Int) (A2 : Option Addr) (n2 c2 o2 R C L : Nat) (i rn j : Nat) (hn : n2 < 1048576) (hoI : I64 o2) (hLI : I64 L) (hRb : R < 1048576) (hCb : C < 1048576) (hL1 : 1 ≤ L) (hRL : R ≤ L) (hr : R = 0 ∨ C = 0 ∨ o2 + (C - 1) * L + (R - 1) < n2) (h3 : i + rn ≤ R) (h4 : j < C) (w : World) :
    Calls Try.prog 36 #[.agg #[.int .i64 kd, .slice A n c, .int .i64 o, .int .i64 r, .int .i64 k, .int .i64 ld, .slice A2 n2 c2, .int .i64 (o2 : Int), .int .i64 (R : Int), .int .i64 (C : Int), .int .i64 (L : Int)], .agg #[.int .i64 (i : Int), .int .i64 (rn : Int)], .int .i64 j] w fun e w' => e = .returned (vec A2 n2 c2 ((pOf o2 L i j rn 1 : Nat) : Int) rn 1) ∧ Below w.heap.size w w' := by
  refine tscolumn_any kd A n c o r k ld A2 n2 c2 o2 R C L i rn j _ _ w (fun W => tspart A2 n2 c2 o2 R C L i j rn 1 hn hoI hLI hRb hCb hL1 hRL hr h3 (by omega) W) fun W => ?_
  have h := vcol_some A2 n2 c2 ((pOf o2 L i j rn 1 : Nat) : Int) (rn : Int) 1 (L : Int) 0 W (by omega) (pOf_I64 hn hoI hRL hr h3 (by omega)) (by unfold I64; omega) (by unfold I64; omega) hLI (by unfold I64; omega) (mat_right (C := 1) hL1 (by omega) (pOf_right hRL hr h3 (by omega))) (by omega)
  have e : colOff ((pOf o2 L i j rn 1 : Nat) : Int) (rn : Int) (L : Int) 0 = ((pOf o2 L i j rn 1 : Nat) : Int) := by
    unfold colOff
    split <;> simp
  rw [e] at h
  exact h

set_option maxRecDepth 100000 in
set_option maxHeartbeats 2000000 in
theorem tssolve_any (kd : Int) (A : Option Addr) (n c : Nat) (o r k ld : Int) (A2 : Option Addr) (n2 c2 : Nat) (o2 r2 k2 ld2 : Int) (bi bn j pm rm cm px rx : Int) (Qw : World → Prop) (w : World)
    (hWi : ∀ W, Calls Try.prog 35 #[.agg #[.int .i64 kd, .slice A n c, .int .i64 o, .int .i64 r, .int .i64 k, .int .i64 ld, .slice A2 n2 c2, .int .i64 o2, .int .i64 r2, .int .i64 k2, .int .i64 ld2], .agg #[.int .i64 bi, .int .i64 bn], .agg #[.int .i64 bi, .int .i64 bn]] W fun e w' => e = .returned (mat A n c pm rm cm ld) ∧ Below W.heap.size W w')
    (hCo : ∀ W, Calls Try.prog 36 #[.agg #[.int .i64 kd, .slice A n c, .int .i64 o, .int .i64 r, .int .i64 k, .int .i64 ld, .slice A2 n2 c2, .int .i64 o2, .int .i64 r2, .int .i64 k2, .int .i64 ld2], .agg #[.int .i64 bi, .int .i64 bn], .int .i64 j] W fun e w' => e = .returned (vec A2 n2 c2 px rx 1) ∧ Below W.heap.size W w')
    (hSo : ∀ W, Below w.heap.size w W → Calls Try.prog 34 #[.int .i64 kd, mat A n c pm rm cm ld, vec A2 n2 c2 px rx 1] W fun e w' => (∃ E9, e = .returned (.int .i64 E9)) ∧ Qw w') :
    Calls Try.prog 19 #[.agg #[.int .i64 kd, .slice A n c, .int .i64 o, .int .i64 r, .int .i64 k, .int .i64 ld, .slice A2 n2 c2, .int .i64 o2, .int .i64 r2, .int .i64 k2, .int .i64 ld2], .agg #[.int .i64 bi, .int .i64 bn], .int .i64 j] w fun e w' => e = .returned (.tuple #[]) ∧ Qw w' := by
  have HWi := Lib.hid hWi
  have HCo := Lib.hid hCo
  have HB0 := Lib.hid (((Below.refl w.heap.size w).alloc (Nat.le_refl _) (.cells #[.int .i64 kd, .slice A n c, .int .i64 o, .int .i64 r, .int .i64 k, .int .i64 ld, .slice A2 n2 c2, .int .i64 o2, .int .i64 r2, .int .i64 k2, .int .i64 ld2] 45)).alloc (by simp) (.cells #[.int .i64 bi, .int .i64 bn] 49))
  have HSo := Lib.hid (fun W (hb : Below ((w.alloc (.cells #[.int .i64 kd, .slice A n c, .int .i64 o, .int .i64 r, .int .i64 k, .int .i64 ld, .slice A2 n2 c2, .int .i64 o2, .int .i64 r2, .int .i64 k2, .int .i64 ld2] 45)).alloc (.cells #[.int .i64 bi, .int .i64 bn] 49)).heap.size ((w.alloc (.cells #[.int .i64 kd, .slice A n c, .int .i64 o, .int .i64 r, .int .i64 k, .int .i64 ld, .slice A2 n2 c2, .int .i64 o2, .int .i64 r2, .int .i64 k2, .int .i64 ld2] 45)).alloc (.cells #[.int .i64 bi, .int .i64 bn] 49)) W) => hSo W (below_nx HB0.out hb))
  have HZ1 := Lib.hid ((Blk.new w 45 #[.int .i64 kd, .slice A n c, .int .i64 o, .int .i64 r, .int .i64 k, .int .i64 ld, .slice A2 n2 c2, .int .i64 o2, .int .i64 r2, .int .i64 k2, .int .i64 ld2]).alloc (.cells #[.int .i64 bi, .int .i64 bn] 49))
  have HJ1 := Lib.hid (Blk.new_ (w.alloc (.cells #[.int .i64 kd, .slice A n c, .int .i64 o, .int .i64 r, .int .i64 k, .int .i64 ld, .slice A2 n2 c2, .int .i64 o2, .int .i64 r2, .int .i64 k2, .int .i64 ld2] 45)) 49 #[.int .i64 bi, .int .i64 bn] (w.heap.size + 1) (by simp))
  clear hWi hCo hSo HB0
  unfold mat vec at *
  go_enter Try.func19, Try.ntmps19
  go_wp2_with fail
  generalize hw1 : (w.alloc (.cells #[.int .i64 kd, .slice A n c, .int .i64 o, .int .i64 r, .int .i64 k, .int .i64 ld, .slice A2 n2 c2, .int .i64 o2, .int .i64 r2, .int .i64 k2, .int .i64 ld2] 45)).alloc (.cells #[.int .i64 bi, .int .i64 bn] 49) = w1 at *
  generalize hz1 : w.heap.size + 1 = z1 at *
  generalize hz0 : w.heap.size = z0 at *
  clear hw1 hz0 hz1
  refine wp_region_inv [6, 7, 8, 9, 10, 11, 12, 13, 14, 15, 16] (fun d s W => (d 0 = true → s 6 = .pointer (some ⟨z0, 0, none⟩)) ∧ (d 1 = true → s 7 = .int .i64 kd) ∧ (d 2 = true → s 8 = .agg #[.int .i64 kd, .slice A n c, .int .i64 o, .int .i64 r, .int .i64 k, .int .i64 ld, .slice A2 n2 c2, .int .i64 o2, .int .i64 r2, .int .i64 k2, .int .i64 ld2]) ∧ (d 3 = true → s 9 = .agg #[.int .i64 bi, .int .i64 bn]) ∧ (d 4 = true → s 10 = .agg #[.int .i64 bi, .int .i64 bn]) ∧ (d 5 = true → s 11 = .agg #[.slice A n c, .int .i64 pm, .int .i64 rm, .int .i64 cm, .int .i64 ld]) ∧ (d 6 = true → s 12 = .agg #[.int .i64 kd, .slice A n c, .int .i64 o, .int .i64 r, .int .i64 k, .int .i64 ld, .slice A2 n2 c2, .int .i64 o2, .int .i64 r2, .int .i64 k2, .int .i64 ld2]) ∧ (d 7 = true → s 13 = .agg #[.int .i64 bi, .int .i64 bn]) ∧ (d 8 = true → s 14 = .int .i64 j) ∧ (d 9 = true → s 15 = .agg #[.slice A2 n2 c2, .int .i64 px, .int .i64 rx, .int .i64 1]) ∧ (d 10 = true → ∃ E9, s 16 = .int .i64 E9) ∧ (d 1 = true → d 0 = true) ∧ (d 5 = true → d 2 = true ∧ d 3 = true ∧ d 4 = true) ∧ (d 9 = true → d 6 = true ∧ d 7 = true ∧ d 8 = true) ∧ (d 10 = true → d 0 = true ∧ d 1 = true ∧ d 2 = true ∧ d 3 = true ∧ d 4 = true ∧ d 5 = true ∧ d 6 = true ∧ d 7 = true ∧ d 8 = true ∧ d 9 = true) ∧ ((d 10 = false → Below w1.heap.size w1 W) ∧ (d 10 = true → Qw W)))
    rfl (by kernel_rfl) ?_ ?_ ?_
  · exact ⟨by simp, by simp, by simp, by simp, by simp, by simp, by simp, by simp, by simp, by simp, by simp, by simp, by simp, by simp, by simp, ⟨fun _ => (Below.refl _ _).drew, fun h => by simp at h⟩⟩
  · refine ⟨?_, ?_, ?_, ?_, ?_, ?_, ?_, ?_, ?_, ?_, ?_, trivial⟩
    all_goals
      intro d s W hJ hfr hd hdep
      simp only [List.mem_cons, forall_eq_or_imp, List.not_mem_nil, false_implies, implies_true, and_true, Region.binds] at hdep
      have f2 := hfr 2 (by decide)
      have f3 := hfr 3 (by decide)
      have f4 := hfr 4 (by decide)
      simp at f2 f3 f4 hdep
      obtain ⟨h0, h1, h2, h3, h4, h5, h6, h7, h8, h9, h10, x0, x1, x2, x3, hT⟩ := hJ
    · as_aux_lemma =>
        have hl : d 10 = false := by
          cases h : d 10
          · rfl
          · have := x3 h; simp [hd] at this
        replace hT := hT.1 hl
        unfold OpSteps
        simp [go_sem, evS, f3]
        exact ⟨fun _ => by simp [sput], kpwb h1, kpwb h2, kpwb h3, kpwb h4, kpwb h5, kpwb h6, kpwb h7, kpwb h8, kpwb h9, fun h => by simpa [sput] using h10 (by simpa [did] using h), fun h => by have := x0 (by simpa [did] using h); simp [did, this], fun h => by have := x1 (by simpa [did] using h); simp [did, this], fun h => by have := x2 (by simpa [did] using h); simp [did, this], fun h => by have := x3 (by simpa [did] using h); simp [did, this], ⟨fun _ => hT, fun h => by simp [did, hl] at h⟩⟩
    · as_aux_lemma =>
        have hl : d 10 = false := by
          cases h : d 10
          · rfl
          · have := x3 h; simp [hd] at this
        replace hT := hT.1 hl
        have g0 := h0 (by simp [hdep])
        unfold OpSteps
        obtain ⟨p0, p1, p2, p3, p4, p5, p6, p7, p8, p9, p10⟩ := cells11 (HZ1.out.below hT HZ1.out.lt)
        simp [go_sem, evS, g0, p0, p1, p2, p3, p4, p5, p6, p7, p8, p9, p10]
        exact ⟨kpwb h0, fun _ => by simp [sput], kpwb h2, kpwb h3, kpwb h4, kpwb h5, kpwb h6, kpwb h7, kpwb h8, kpwb h9, fun h => by simpa [sput] using h10 (by simpa [did] using h), fun _ => by simp [did, hdep], fun h => by have := x1 (by simpa [did] using h); simp [did, this], fun h => by have := x2 (by simpa [did] using h); simp [did, this], fun h => by have := x3 (by simpa [did] using h); simp [did, this], ⟨fun _ => hT, fun h => by simp [did, hl] at h⟩⟩
    · as_aux_lemma =>
        have hl : d 10 = false := by
          cases h : d 10
          · rfl
          · have := x3 h; simp [hd] at this
        replace hT := hT.1 hl
        unfold OpSteps
        obtain ⟨p0, p1, p2, p3, p4, p5, p6, p7, p8, p9, p10⟩ := cells11 (HZ1.out.below hT HZ1.out.lt)
        simp [go_sem, evS, f3, p0, p1, p2, p3, p4, p5, p6, p7, p8, p9, p10]
        exact ⟨kpwb h0, kpwb h1, fun _ => by simp [sput], kpwb h3, kpwb h4, kpwb h5, kpwb h6, kpwb h7, kpwb h8, kpwb h9, fun h => by simpa [sput] using h10 (by simpa [did] using h), fun h => by have := x0 (by simpa [did] using h); simp [did, this], fun h => by have := x1 (by simpa [did] using h); simp [did, this], fun h => by have := x2 (by simpa [did] using h); simp [did, this], fun h => by have := x3 (by simpa [did] using h); simp [did, this], ⟨fun _ => hT, fun h => by simp [did, hl] at h⟩⟩
    · as_aux_lemma =>
        have hl : d 10 = false := by
          cases h : d 10
          · rfl
          · have := x3 h; simp [hd] at this
        replace hT := hT.1 hl
        unfold OpSteps
        obtain ⟨p0, p1⟩ := cells2j (HJ1.out.below hT HJ1.out.lt)
        simp [go_sem, evS, f4, p0, p1]
        exact ⟨kpwb h0, kpwb h1, kpwb h2, fun _ => by simp [sput], kpwb h4, kpwb h5, kpwb h6, kpwb h7, kpwb h8, kpwb h9, fun h => by simpa [sput] using h10 (by simpa [did] using h), fun h => by have := x0 (by simpa [did] using h); simp [did, this], fun h => by have := x1 (by simpa [did] using h); simp [did, this], fun h => by have := x2 (by simpa [did] using h); simp [did, this], fun h => by have := x3 (by simpa [did] using h); simp [did, this], ⟨fun _ => hT, fun h => by simp [did, hl] at h⟩⟩
    · as_aux_lemma =>
        have hl : d 10 = false := by
          cases h : d 10
          · rfl
          · have := x3 h; simp [hd] at this
        replace hT := hT.1 hl
        unfold OpSteps
        obtain ⟨p0, p1⟩ := cells2j (HJ1.out.below hT HJ1.out.lt)
        simp [go_sem, evS, f4, p0, p1]
        exact ⟨kpwb h0, kpwb h1, kpwb h2, kpwb h3, fun _ => by simp [sput], kpwb h5, kpwb h6, kpwb h7, kpwb h8, kpwb h9, fun h => by simpa [sput] using h10 (by simpa [did] using h), fun h => by have := x0 (by simpa [did] using h); simp [did, this], fun h => by have := x1 (by simpa [did] using h); simp [did, this], fun h => by have := x2 (by simpa [did] using h); simp [did, this], fun h => by have := x3 (by simpa [did] using h); simp [did, this], ⟨fun _ => hT, fun h => by simp [did, hl] at h⟩⟩
    · as_aux_lemma =>
        have hl : d 10 = false := by
          cases h : d 10
          · rfl
          · have := x3 h; simp [hd] at this
        replace hT := hT.1 hl
        have g2 := h2 (by simp [hdep])
        have g3 := h3 (by simp [hdep])
        have g4 := h4 (by simp [hdep])
        unfold OpSteps
        simp [go_sem, evS, g2, g3, g4]
        refine (HWi.out W).mono ?_
        rintro e W' ⟨rfl, hb⟩
        refine ⟨_, rfl, ?_⟩
        exact ⟨kpwb h0, kpwb h1, kpwb h2, kpwb h3, kpwb h4, fun _ => by simp [sput], kpwb h6, kpwb h7, kpwb h8, kpwb h9, fun h => by simpa [sput] using h10 (by simpa [did] using h), fun h => by have := x0 (by simpa [did] using h); simp [did, this], fun _ => by simp [did, hdep], fun h => by have := x2 (by simpa [did] using h); simp [did, this], fun h => by have := x3 (by simpa [did] using h); simp [did, this], ⟨fun _ => below_nx hT hb, fun h => by simp [did, hl] at h⟩⟩
    · as_aux_lemma =>
        have hl : d 10 = false := by
          cases h : d 10
          · rfl
          · have := x3 h; simp [hd] at this
        replace hT := hT.1 hl
        unfold OpSteps
        obtain ⟨p0, p1, p2, p3, p4, p5, p6, p7, p8, p9, p10⟩ := cells11 (HZ1.out.below hT HZ1.out.lt)
        simp [go_sem, evS, f3, p0, p1, p2, p3, p4, p5, p6, p7, p8, p9, p10]
        exact ⟨kpwb h0, kpwb h1, kpwb h2, kpwb h3, kpwb h4, kpwb h5, fun _ => by simp [sput], kpwb h7, kpwb h8, kpwb h9, fun h => by simpa [sput] using h10 (by simpa [did] using h), fun h => by have := x0 (by simpa [did] using h); simp [did, this], fun h => by have := x1 (by simpa [did] using h); simp [did, this], fun h => by have := x2 (by simpa [did] using h); simp [did, this], fun h => by have := x3 (by simpa [did] using h); simp [did, this], ⟨fun _ => hT, fun h => by simp [did, hl] at h⟩⟩
    · as_aux_lemma =>
        have hl : d 10 = false := by
          cases h : d 10
          · rfl
          · have := x3 h; simp [hd] at this
        replace hT := hT.1 hl
        unfold OpSteps
        obtain ⟨p0, p1⟩ := cells2j (HJ1.out.below hT HJ1.out.lt)
        simp [go_sem, evS, f4, p0, p1]
        exact ⟨kpwb h0, kpwb h1, kpwb h2, kpwb h3, kpwb h4, kpwb h5, kpwb h6, fun _ => by simp [sput], kpwb h8, kpwb h9, fun h => by simpa [sput] using h10 (by simpa [did] using h), fun h => by have := x0 (by simpa [did] using h); simp [did, this], fun h => by have := x1 (by simpa [did] using h); simp [did, this], fun h => by have := x2 (by simpa [did] using h); simp [did, this], fun h => by have := x3 (by simpa [did] using h); simp [did, this], ⟨fun _ => hT, fun h => by simp [did, hl] at h⟩⟩
    · as_aux_lemma =>
        have hl : d 10 = false := by
          cases h : d 10
          · rfl
          · have := x3 h; simp [hd] at this
        replace hT := hT.1 hl
        unfold OpSteps
        simp [go_sem, evS, f2]
        exact ⟨kpwb h0, kpwb h1, kpwb h2, kpwb h3, kpwb h4, kpwb h5, kpwb h6, kpwb h7, fun _ => by simp [sput], kpwb h9, fun h => by simpa [sput] using h10 (by simpa [did] using h), fun h => by have := x0 (by simpa [did] using h); simp [did, this], fun h => by have := x1 (by simpa [did] using h); simp [did, this], fun h => by have := x2 (by simpa [did] using h); simp [did, this], fun h => by have := x3 (by simpa [did] using h); simp [did, this], ⟨fun _ => hT, fun h => by simp [did, hl] at h⟩⟩
    · as_aux_lemma =>
        have hl : d 10 = false := by
          cases h : d 10
          · rfl
          · have := x3 h; simp [hd] at this
        replace hT := hT.1 hl
        have g6 := h6 (by simp [hdep])
        have g7 := h7 (by simp [hdep])
        have g8 := h8 (by simp [hdep])
        unfold OpSteps
        simp [go_sem, evS, g6, g7, g8]
        refine (HCo.out W).mono ?_
        rintro e W' ⟨rfl, hb⟩
        refine ⟨_, rfl, ?_⟩
        exact ⟨kpwb h0, kpwb h1, kpwb h2, kpwb h3, kpwb h4, kpwb h5, kpwb h6, kpwb h7, kpwb h8, fun _ => by simp [sput], fun h => by simpa [sput] using h10 (by simpa [did] using h), fun h => by have := x0 (by simpa [did] using h); simp [did, this], fun h => by have := x1 (by simpa [did] using h); simp [did, this], fun _ => by simp [did, hdep], fun h => by have := x3 (by simpa [did] using h); simp [did, this], ⟨fun _ => below_nx hT hb, fun h => by simp [did, hl] at h⟩⟩
    · as_aux_lemma =>
        have g1 := h1 (by simp [hdep])
        have g5 := h5 (by simp [hdep])
        have g9 := h9 (by simp [hdep])
        unfold OpSteps
        have hT0 := hT.1 hd
        simp [go_sem, evS, g1, g5, g9]
        refine (HSo.out W hT0).mono ?_
        rintro e W' ⟨⟨E9, rfl⟩, hD9⟩
        refine ⟨_, rfl, ?_⟩
        exact ⟨kpwb h0, kpwb h1, kpwb h2, kpwb h3, kpwb h4, kpwb h5, kpwb h6, kpwb h7, kpwb h8, kpwb h9, fun _ => ⟨E9, by simp [sput]⟩, fun h => by have := x0 (by simpa [did] using h); simp [did, this], fun h => by have := x1 (by simpa [did] using h); simp [did, this], fun h => by have := x2 (by simpa [did] using h); simp [did, this], fun _ => by have y1 := x0 (by simp [hdep]); have y5 := x1 (by simp [hdep]); have y9 := x2 (by simp [hdep]); simp [did, hdep, y1, y5, y9], ⟨fun h => by simp [did] at h, fun _ => hD9⟩⟩
  intro d s W hJ hd
  obtain ⟨h0, h1, h2, h3, h4, h5, h6, h7, h8, h9, h10, x0, x1, x2, x3, hT⟩ := hJ
  have HQ9 := Lib.hid (hT.2 (hd 10 (by decide)))
  clear h0 h1 h2 h3 h4 h5 h6 h7 h8 h9 h10 x0 x1 x2 x3 hT hd
  simp [setAll]
  generalize s 6 = s6
  generalize s 7 = s7
  generalize s 8 = s8
  generalize s 9 = s9
  generalize s 10 = s10
  generalize s 11 = s11
  generalize s 12 = s12
  generalize s 13 = s13
  generalize s 14 = s14
  generalize s 15 = s15
  generalize s 16 = s16
  generalize W = w9 at *
  go_wp2_with fail
  go_end0
  exact ⟨rfl, HQ9.out⟩

set_option maxRecDepth 100000 in
set_option maxHeartbeats 2000000 in
theorem tstimes_any (kd : Int) (A : Option Addr) (n c : Nat) (o r k ld : Int) (A2 : Option Addr) (n2 c2 : Nat) (o2 r2 k2 ld2 : Int) (ri rn ci cn j pm rm cm px rx py ry : Int) (Qw : World → Prop) (w : World)
    (hWi : ∀ W, Calls Try.prog 35 #[.agg #[.int .i64 kd, .slice A n c, .int .i64 o, .int .i64 r, .int .i64 k, .int .i64 ld, .slice A2 n2 c2, .int .i64 o2, .int .i64 r2, .int .i64 k2, .int .i64 ld2], .agg #[.int .i64 ri, .int .i64 rn], .agg #[.int .i64 ci, .int .i64 cn]] W fun e w' => e = .returned (mat A n c pm rm cm ld) ∧ Below W.heap.size W w')
    (hCx : ∀ W, Calls Try.prog 36 #[.agg #[.int .i64 kd, .slice A n c, .int .i64 o, .int .i64 r, .int .i64 k, .int .i64 ld, .slice A2 n2 c2, .int .i64 o2, .int .i64 r2, .int .i64 k2, .int .i64 ld2], .agg #[.int .i64 ci, .int .i64 cn], .int .i64 j] W fun e w' => e = .returned (vec A2 n2 c2 px rx 1) ∧ Below W.heap.size W w')
    (hCy : ∀ W, Calls Try.prog 36 #[.agg #[.int .i64 kd, .slice A n c, .int .i64 o, .int .i64 r, .int .i64 k, .int .i64 ld, .slice A2 n2 c2, .int .i64 o2, .int .i64 r2, .int .i64 k2, .int .i64 ld2], .agg #[.int .i64 ri, .int .i64 rn], .int .i64 j] W fun e w' => e = .returned (vec A2 n2 c2 py ry 1) ∧ Below W.heap.size W w')
    (hSo : ∀ W, Below w.heap.size w W → Calls Try.prog 55 #[.float .f64 13830554455654793216, mat A n c pm rm cm ld, vec A2 n2 c2 px rx 1, .float .f64 4607182418800017408, vec A2 n2 c2 py ry 1] W fun e w' => (∃ E9, e = .returned (.int .i64 E9)) ∧ Qw w') :
    Calls Try.prog 37 #[.agg #[.int .i64 kd, .slice A n c, .int .i64 o, .int .i64 r, .int .i64 k, .int .i64 ld, .slice A2 n2 c2, .int .i64 o2, .int .i64 r2, .int .i64 k2, .int .i64 ld2], .agg #[.int .i64 ri, .int .i64 rn], .agg #[.int .i64 ci, .int .i64 cn], .int .i64 j] w fun e w' => e = .returned (.tuple #[]) ∧ Qw w' := by
  have HWi := Lib.hid hWi
  have HCx := Lib.hid hCx
  have HCy := Lib.hid hCy
  have HB0 := Lib.hid ((((Below.refl w.heap.size w).alloc (Nat.le_refl _) (.cells #[.int .i64 kd, .slice A n c, .int .i64 o, .int .i64 r, .int .i64 k, .int .i64 ld, .slice A2 n2 c2, .int .i64 o2, .int .i64 r2, .int .i64 k2, .int .i64 ld2] 45)).alloc (by simp) (.cells #[.int .i64 ri, .int .i64 rn] 49)).alloc (by simp; omega) (.cells #[.int .i64 ci, .int .i64 cn] 49))
  have HSo := Lib.hid (fun W (hb : Below (((w.alloc (.cells #[.int .i64 kd, .slice A n c, .int .i64 o, .int .i64 r, .int .i64 k, .int .i64 ld, .slice A2 n2 c2, .int .i64 o2, .int .i64 r2, .int .i64 k2, .int .i64 ld2] 45)).alloc (.cells #[.int .i64 ri, .int .i64 rn] 49)).alloc (.cells #[.int .i64 ci, .int .i64 cn] 49)).heap.size (((w.alloc (.cells #[.int .i64 kd, .slice A n c, .int .i64 o, .int .i64 r, .int .i64 k, .int .i64 ld, .slice A2 n2 c2, .int .i64 o2, .int .i64 r2, .int .i64 k2, .int .i64 ld2] 45)).alloc (.cells #[.int .i64 ri, .int .i64 rn] 49)).alloc (.cells #[.int .i64 ci, .int .i64 cn] 49)) W) => hSo W (below_nx HB0.out hb))
  have HZ1 := Lib.hid (((Blk.new w 45 #[.int .i64 kd, .slice A n c, .int .i64 o, .int .i64 r, .int .i64 k, .int .i64 ld, .slice A2 n2 c2, .int .i64 o2, .int .i64 r2, .int .i64 k2, .int .i64 ld2]).alloc (.cells #[.int .i64 ri, .int .i64 rn] 49)).alloc (.cells #[.int .i64 ci, .int .i64 cn] 49))
  have HI1 := Lib.hid ((Blk.new_ (w.alloc (.cells #[.int .i64 kd, .slice A n c, .int .i64 o, .int .i64 r, .int .i64 k, .int .i64 ld, .slice A2 n2 c2, .int .i64 o2, .int .i64 r2, .int .i64 k2, .int .i64 ld2] 45)) 49 #[.int .i64 ri, .int .i64 rn] (w.heap.size + 1) (by simp)).alloc (.cells #[.int .i64 ci, .int .i64 cn] 49))
  have HJ1 := Lib.hid (Blk.new_ ((w.alloc (.cells #[.int .i64 kd, .slice A n c, .int .i64 o, .int .i64 r, .int .i64 k, .int .i64 ld, .slice A2 n2 c2, .int .i64 o2, .int .i64 r2, .int .i64 k2, .int .i64 ld2] 45)).alloc (.cells #[.int .i64 ri, .int .i64 rn] 49)) 49 #[.int .i64 ci, .int .i64 cn] (w.heap.size + 1 + 1) (by simp))
  clear hWi hCx hCy hSo HB0
  unfold mat vec at *
  go_enter Try.func37, Try.ntmps37
  go_wp2_with fail
  generalize hw1 : (((w.alloc (.cells #[.int .i64 kd, .slice A n c, .int .i64 o, .int .i64 r, .int .i64 k, .int .i64 ld, .slice A2 n2 c2, .int .i64 o2, .int .i64 r2, .int .i64 k2, .int .i64 ld2] 45)).alloc (.cells #[.int .i64 ri, .int .i64 rn] 49)).alloc (.cells #[.int .i64 ci, .int .i64 cn] 49)) = w1 at *
  generalize hz2 : w.heap.size + 1 + 1 = z2 at *
  generalize hz1 : w.heap.size + 1 = z1 at *
  generalize hz0 : w.heap.size = z0 at *
  clear hw1 hz0 hz1 hz2
  refine wp_region_inv [8, 9, 10, 11, 12, 13, 14, 15, 16, 17, 18, 19, 20] (fun d s W => (d 0 = true → s 8 = .agg #[.int .i64 kd, .slice A n c, .int .i64 o, .int .i64 r, .int .i64 k, .int .i64 ld, .slice A2 n2 c2, .int .i64 o2, .int .i64 r2, .int .i64 k2, .int .i64 ld2]) ∧ (d 1 = true → s 9 = .agg #[.int .i64 ri, .int .i64 rn]) ∧ (d 2 = true → s 10 = .agg #[.int .i64 ci, .int .i64 cn]) ∧ (d 3 = true → s 11 = .agg #[.slice A n c, .int .i64 pm, .int .i64 rm, .int .i64 cm, .int .i64 ld]) ∧ (d 4 = true → s 12 = .agg #[.int .i64 kd, .slice A n c, .int .i64 o, .int .i64 r, .int .i64 k, .int .i64 ld, .slice A2 n2 c2, .int .i64 o2, .int .i64 r2, .int .i64 k2, .int .i64 ld2]) ∧ (d 5 = true → s 13 = .agg #[.int .i64 ci, .int .i64 cn]) ∧ (d 6 = true → s 14 = .int .i64 j) ∧ (d 7 = true → s 15 = .agg #[.slice A2 n2 c2, .int .i64 px, .int .i64 rx, .int .i64 1]) ∧ (d 8 = true → s 16 = .agg #[.int .i64 kd, .slice A n c, .int .i64 o, .int .i64 r, .int .i64 k, .int .i64 ld, .slice A2 n2 c2, .int .i64 o2, .int .i64 r2, .int .i64 k2, .int .i64 ld2]) ∧ (d 9 = true → s 17 = .agg #[.int .i64 ri, .int .i64 rn]) ∧ (d 10 = true → s 18 = .int .i64 j) ∧ (d 11 = true → s 19 = .agg #[.slice A2 n2 c2, .int .i64 py, .int .i64 ry, .int .i64 1]) ∧ (d 12 = true → ∃ E9, s 20 = .int .i64 E9) ∧ (d 3 = true → d 0 = true ∧ d 1 = true ∧ d 2 = true) ∧ (d 7 = true → d 4 = true ∧ d 5 = true ∧ d 6 = true) ∧ (d 11 = true → d 8 = true ∧ d 9 = true ∧ d 10 = true) ∧ (d 12 = true → d 0 = true ∧ d 1 = true ∧ d 2 = true ∧ d 3 = true ∧ d 4 = true ∧ d 5 = true ∧ d 6 = true ∧ d 7 = true ∧ d 8 = true ∧ d 9 = true ∧ d 10 = true ∧ d 11 = true) ∧ ((d 12 = false → Below w1.heap.size w1 W) ∧ (d 12 = true → Qw W)))
    rfl (by kernel_rfl) ?_ ?_ ?_
  · exact ⟨by simp, by simp, by simp, by simp, by simp, by simp, by simp, by simp, by simp, by simp, by simp, by simp, by simp, by simp, by simp, by simp, by simp, ⟨fun _ => (Below.refl _ _).drew, fun h => by simp at h⟩⟩
  · refine ⟨?_, ?_, ?_, ?_, ?_, ?_, ?_, ?_, ?_, ?_, ?_, ?_, ?_, trivial⟩
    all_goals
      intro d s W hJ hfr hd hdep
      simp only [List.mem_cons, forall_eq_or_imp, List.not_mem_nil, false_implies, implies_true, and_true, Region.binds] at hdep
      have f3 := hfr 3 (by decide)
      have f4 := hfr 4 (by decide)
      have f5 := hfr 5 (by decide)
      have f6 := hfr 6 (by decide)
      simp at f3 f4 f5 f6 hdep
      obtain ⟨h0, h1, h2, h3, h4, h5, h6, h7, h8, h9, h10, h11, h12, x0, x1, x2, x3, hT⟩ := hJ
    · as_aux_lemma =>
        have hl : d 12 = false := by
          cases h : d 12
          · rfl
          · have := x3 h; simp [hd] at this
        replace hT := hT.1 hl
        unfold OpSteps
        obtain ⟨p0, p1, p2, p3, p4, p5, p6, p7, p8, p9, p10⟩ := cells11 (HZ1.out.below hT HZ1.out.lt)
        simp [go_sem, evS, f4, p0, p1, p2, p3, p4, p5, p6, p7, p8, p9, p10]
        exact ⟨fun _ => by simp [sput], kpwb h1, kpwb h2, kpwb h3, kpwb h4, kpwb h5, kpwb h6, kpwb h7, kpwb h8, kpwb h9, kpwb h10, kpwb h11, fun h => by simpa [sput] using h12 (by simpa [did] using h), fun h => by have := x0 (by simpa [did] using h); simp [did, this], fun h => by have := x1 (by simpa [did] using h); simp [did, this], fun h => by have := x2 (by simpa [did] using h); simp [did, this], fun h => by have := x3 (by simpa [did] using h); simp [did, this], ⟨fun _ => hT, fun h => by simp [did, hl] at h⟩⟩
    · as_aux_lemma =>
        have hl : d 12 = false := by
          cases h : d 12
          · rfl
          · have := x3 h; simp [hd] at this
        replace hT := hT.1 hl
        unfold OpSteps
        obtain ⟨p0, p1⟩ := cells2j (HI1.out.below hT HI1.out.lt)
        simp [go_sem, evS, f5, p0, p1]
        exact ⟨kpwb h0, fun _ => by simp [sput], kpwb h2, kpwb h3, kpwb h4, kpwb h5, kpwb h6, kpwb h7, kpwb h8, kpwb h9, kpwb h10, kpwb h11, fun h => by simpa [sput] using h12 (by simpa [did] using h), fun h => by have := x0 (by simpa [did] using h); simp [did, this], fun h => by have := x1 (by simpa [did] using h); simp [did, this], fun h => by have := x2 (by simpa [did] using h); simp [did, this], fun h => by have := x3 (by simpa [did] using h); simp [did, this], ⟨fun _ => hT, fun h => by simp [did, hl] at h⟩⟩
    · as_aux_lemma =>
        have hl : d 12 = false := by
          cases h : d 12
          · rfl
          · have := x3 h; simp [hd] at this
        replace hT := hT.1 hl
        unfold OpSteps
        obtain ⟨p0, p1⟩ := cells2j (HJ1.out.below hT HJ1.out.lt)
        simp [go_sem, evS, f6, p0, p1]
        exact ⟨kpwb h0, kpwb h1, fun _ => by simp [sput], kpwb h3, kpwb h4, kpwb h5, kpwb h6, kpwb h7, kpwb h8, kpwb h9, kpwb h10, kpwb h11, fun h => by simpa [sput] using h12 (by simpa [did] using h), fun h => by have := x0 (by simpa [did] using h); simp [did, this], fun h => by have := x1 (by simpa [did] using h); simp [did, this], fun h => by have := x2 (by simpa [did] using h); simp [did, this], fun h => by have := x3 (by simpa [did] using h); simp [did, this], ⟨fun _ => hT, fun h => by simp [did, hl] at h⟩⟩
    · as_aux_lemma =>
        have hl : d 12 = false := by
          cases h : d 12
          · rfl
          · have := x3 h; simp [hd] at this
        replace hT := hT.1 hl
        have g0 := h0 (by simp [hdep])
        have g1 := h1 (by simp [hdep])
        have g2 := h2 (by simp [hdep])
        unfold OpSteps
        simp [go_sem, evS, g0, g1, g2]
        refine (HWi.out W).mono ?_
        rintro e W' ⟨rfl, hb⟩
        refine ⟨_, rfl, ?_⟩
        exact ⟨kpwb h0, kpwb h1, kpwb h2, fun _ => by simp [sput], kpwb h4, kpwb h5, kpwb h6, kpwb h7, kpwb h8, kpwb h9, kpwb h10, kpwb h11, fun h => by simpa [sput] using h12 (by simpa [did] using h), fun _ => by simp [did, hdep], fun h => by have := x1 (by simpa [did] using h); simp [did, this], fun h => by have := x2 (by simpa [did] using h); simp [did, this], fun h => by have := x3 (by simpa [did] using h); simp [did, this], ⟨fun _ => below_nx hT hb, fun h => by simp [did, hl] at h⟩⟩
    · as_aux_lemma =>
        have hl : d 12 = false := by
          cases h : d 12
          · rfl
          · have := x3 h; simp [hd] at this
        replace hT := hT.1 hl
        unfold OpSteps
        obtain ⟨p0, p1, p2, p3, p4, p5, p6, p7, p8, p9, p10⟩ := cells11 (HZ1.out.below hT HZ1.out.lt)
        simp [go_sem, evS, f4, p0, p1, p2, p3, p4, p5, p6, p7, p8, p9, p10]
        exact ⟨kpwb h0, kpwb h1, kpwb h2, kpwb h3, fun _ => by simp [sput], kpwb h5, kpwb h6, kpwb h7, kpwb h8, kpwb h9, kpwb h10, kpwb h11, fun h => by simpa [sput] using h12 (by simpa [did] using h), fun h => by have := x0 (by simpa [did] using h); simp [did, this], fun h => by have := x1 (by simpa [did] using h); simp [did, this], fun h => by have := x2 (by simpa [did] using h); simp [did, this], fun h => by have := x3 (by simpa [did] using h); simp [did, this], ⟨fun _ => hT, fun h => by simp [did, hl] at h⟩⟩
    · as_aux_lemma =>
        have hl : d 12 = false := by
          cases h : d 12
          · rfl
          · have := x3 h; simp [hd] at this
        replace hT := hT.1 hl
        unfold OpSteps
        obtain ⟨p0, p1⟩ := cells2j (HJ1.out.below hT HJ1.out.lt)
        simp [go_sem, evS, f6, p0, p1]
        exact ⟨kpwb h0, kpwb h1, kpwb h2, kpwb h3, kpwb h4, fun _ => by simp [sput], kpwb h6, kpwb h7, kpwb h8, kpwb h9, kpwb h10, kpwb h11, fun h => by simpa [sput] using h12 (by simpa [did] using h), fun h => by have := x0 (by simpa [did] using h); simp [did, this], fun h => by have := x1 (by simpa [did] using h); simp [did, this], fun h => by have := x2 (by simpa [did] using h); simp [did, this], fun h => by have := x3 (by simpa [did] using h); simp [did, this], ⟨fun _ => hT, fun h => by simp [did, hl] at h⟩⟩
    · as_aux_lemma =>
        have hl : d 12 = false := by
          cases h : d 12
          · rfl
          · have := x3 h; simp [hd] at this
        replace hT := hT.1 hl
        unfold OpSteps
        simp [go_sem, evS, f3]
        exact ⟨kpwb h0, kpwb h1, kpwb h2, kpwb h3, kpwb h4, kpwb h5, fun _ => by simp [sput], kpwb h7, kpwb h8, kpwb h9, kpwb h10, kpwb h11, fun h => by simpa [sput] using h12 (by simpa [did] using h), fun h => by have := x0 (by simpa [did] using h); simp [did, this], fun h => by have := x1 (by simpa [did] using h); simp [did, this], fun h => by have := x2 (by simpa [did] using h); simp [did, this], fun h => by have := x3 (by simpa [did] using h); simp [did, this], ⟨fun _ => hT, fun h => by simp [did, hl] at h⟩⟩
    · as_aux_lemma =>
        have hl : d 12 = false := by
          cases h : d 12
          · rfl
          · have := x3 h; simp [hd] at this
        replace hT := hT.1 hl
        have g4 := h4 (by simp [hdep])
        have g5 := h5 (by simp [hdep])
        have g6 := h6 (by simp [hdep])
        unfold OpSteps
        simp [go_sem, evS, g4, g5, g6]
        refine (HCx.out W).mono ?_
        rintro e W' ⟨rfl, hb⟩
        refine ⟨_, rfl, ?_⟩
        exact ⟨kpwb h0, kpwb h1, kpwb h2, kpwb h3, kpwb h4, kpwb h5, kpwb h6, fun _ => by simp [sput], kpwb h8, kpwb h9, kpwb h10, kpwb h11, fun h => by simpa [sput] using h12 (by simpa [did] using h), fun h => by have := x0 (by simpa [did] using h); simp [did, this], fun _ => by simp [did, hdep], fun h => by have := x2 (by simpa [did] using h); simp [did, this], fun h => by have := x3 (by simpa [did] using h); simp [did, this], ⟨fun _ => below_nx hT hb, fun h => by simp [did, hl] at h⟩⟩
    · as_aux_lemma =>
        have hl : d 12 = false := by
          cases h : d 12
          · rfl
          · have := x3 h; simp [hd] at this
        replace hT := hT.1 hl
        unfold OpSteps
        obtain ⟨p0, p1, p2, p3, p4, p5, p6, p7, p8, p9, p10⟩ := cells11 (HZ1.out.below hT HZ1.out.lt)
        simp [go_sem, evS, f4, p0, p1, p2, p3, p4, p5, p6, p7, p8, p9, p10]
        exact ⟨kpwb h0, kpwb h1, kpwb h2, kpwb h3, kpwb h4, kpwb h5, kpwb h6, kpwb h7, fun _ => by simp [sput], kpwb h9, kpwb h10, kpwb h11, fun h => by simpa [sput] using h12 (by simpa [did] using h), fun h => by have := x0 (by simpa [did] using h); simp [did, this], fun h => by have := x1 (by simpa [did] using h); simp [did, this], fun h => by have := x2 (by simpa [did] using h); simp [did, this], fun h => by have := x3 (by simpa [did] using h); simp [did, this], ⟨fun _ => hT, fun h => by simp [did, hl] at h⟩⟩
    · as_aux_lemma =>
        have hl : d 12 = false := by
          cases h : d 12
          · rfl
          · have := x3 h; simp [hd] at this
        replace hT := hT.1 hl
        unfold OpSteps
        obtain ⟨p0, p1⟩ := cells2j (HI1.out.below hT HI1.out.lt)
        simp [go_sem, evS, f5, p0, p1]
        exact ⟨kpwb h0, kpwb h1, kpwb h2, kpwb h3, kpwb h4, kpwb h5, kpwb h6, kpwb h7, kpwb h8, fun _ => by simp [sput], kpwb h10, kpwb h11, fun h => by simpa [sput] using h12 (by simpa [did] using h), fun h => by have := x0 (by simpa [did] using h); simp [did, this], fun h => by have := x1 (by simpa [did] using h); simp [did, this], fun h => by have := x2 (by simpa [did] using h); simp [did, this], fun h => by have := x3 (by simpa [did] using h); simp [did, this], ⟨fun _ => hT, fun h => by simp [did, hl] at h⟩⟩
    · as_aux_lemma =>
        have hl : d 12 = false := by
          cases h : d 12
          · rfl
          · have := x3 h; simp [hd] at this
        replace hT := hT.1 hl
        unfold OpSteps
        simp [go_sem, evS, f3]
        exact ⟨kpwb h0, kpwb h1, kpwb h2, kpwb h3, kpwb h4, kpwb h5, kpwb h6, kpwb h7, kpwb h8, kpwb h9, fun _ => by simp [sput], kpwb h11, fun h => by simpa [sput] using h12 (by simpa [did] using h), fun h => by have := x0 (by simpa [did] using h); simp [did, this], fun h => by have := x1 (by simpa [did] using h); simp [did, this], fun h => by have := x2 (by simpa [did] using h); simp [did, this], fun h => by have := x3 (by simpa [did] using h); simp [did, this], ⟨fun _ => hT, fun h => by simp [did, hl] at h⟩⟩
    · as_aux_lemma =>
        have hl : d 12 = false := by
          cases h : d 12
          · rfl
          · have := x3 h; simp [hd] at this
        replace hT := hT.1 hl
        have g8 := h8 (by simp [hdep])
        have g9 := h9 (by simp [hdep])
        have g10 := h10 (by simp [hdep])
        unfold OpSteps
        simp [go_sem, evS, g8, g9, g10]
        refine (HCy.out W).mono ?_
        rintro e W' ⟨rfl, hb⟩
        refine ⟨_, rfl, ?_⟩
        exact ⟨kpwb h0, kpwb h1, kpwb h2, kpwb h3, kpwb h4, kpwb h5, kpwb h6, kpwb h7, kpwb h8, kpwb h9, kpwb h10, fun _ => by simp [sput], fun h => by simpa [sput] using h12 (by simpa [did] using h), fun h => by have := x0 (by simpa [did] using h); simp [did, this], fun h => by have := x1 (by simpa [did] using h); simp [did, this], fun _ => by simp [did, hdep], fun h => by have := x3 (by simpa [did] using h); simp [did, this], ⟨fun _ => below_nx hT hb, fun h => by simp [did, hl] at h⟩⟩
    · as_aux_lemma =>
        have g3 := h3 (by simp [hdep])
        have g7 := h7 (by simp [hdep])
        have g11 := h11 (by simp [hdep])
        unfold OpSteps
        have hT0 := hT.1 hd
        simp [go_sem, evS, g3, g7, g11]
        refine (HSo.out W hT0).mono ?_
        rintro e W' ⟨⟨E9, rfl⟩, hD9⟩
        refine ⟨_, rfl, ?_⟩
        exact ⟨kpwb h0, kpwb h1, kpwb h2, kpwb h3, kpwb h4, kpwb h5, kpwb h6, kpwb h7, kpwb h8, kpwb h9, kpwb h10, kpwb h11, fun _ => ⟨E9, by simp [sput]⟩, fun h => by have := x0 (by simpa [did] using h); simp [did, this], fun h => by have := x1 (by simpa [did] using h); simp [did, this], fun h => by have := x2 (by simpa [did] using h); simp [did, this], fun _ => by have y3 := x0 (by simp [hdep]); have y7 := x1 (by simp [hdep]); have y11 := x2 (by simp [hdep]); simp [did, hdep, y3, y7, y11], ⟨fun h => by simp [did] at h, fun _ => hD9⟩⟩
  intro d s W hJ hd
  obtain ⟨h0, h1, h2, h3, h4, h5, h6, h7, h8, h9, h10, h11, h12, x0, x1, x2, x3, hT⟩ := hJ
  have HQ9 := Lib.hid (hT.2 (hd 12 (by decide)))
  clear h0 h1 h2 h3 h4 h5 h6 h7 h8 h9 h10 h11 h12 x0 x1 x2 x3 hT hd
  simp [setAll]
  generalize s 8 = s8
  generalize s 9 = s9
  generalize s 10 = s10
  generalize s 11 = s11
  generalize s 12 = s12
  generalize s 13 = s13
  generalize s 14 = s14
  generalize s 15 = s15
  generalize s 16 = s16
  generalize s 17 = s17
  generalize s 18 = s18
  generalize s 19 = s19
  generalize s 20 = s20
  generalize W = w9 at *
  go_wp2_with fail
  go_end0
  exact ⟨rfl, HQ9.out⟩
end Go.Proofs.Ytcdhpoikppfjkaa
