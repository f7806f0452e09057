/-
Ger: the document's Copy of a table, Set, what counts of an exponent. Conditions: as each says.
-/
import Derived.Test.YtelpdbkkefpjhaaWKm
import Derived.Test.YtelpdbkkefpjhaaKIng
import Derived.Test.YtelpdbkkefpjhaaWKj
import Derived.Test.YtelpdbkkefpjhaaWKi
set_option linter.unusedVariables false
set_option linter.unusedSimpArgs false
set_option linter.unnecessarySimpa false
namespace Go.Proofs.Ytelpdbkkefpjhaa
open Go.RowKit
attribute [local go_sem ↓] Go.wp_at_zero Go.wp_at_succ

theorem rat8_any (R C gT N cT : Nat) (T : List Nat) (a b : Nat) (w : World) (hT : Row w (some ⟨gT, 0, none⟩) (f64s T)) (hTl : T.length = N) (hN : N < 1048576) (hab : a * C + b < N) :
    Calls Try.prog 21 #[.agg #[.int .i64 R, .int .i64 C, .slice (some ⟨gT, 0, none⟩) N cT], .int .i64 (a : Int), .int .i64 (b : Int)] w fun e w' => e = .returned (.float .f64 (T.getD (a * C + b) 0)) ∧ Below w.heap.size w w' := by
  have hPl : a * C + b < T.length := by rw [hTl]; exact hab
  obtain ⟨gb, x, hgx, _, hcell0⟩ := hT.at_ (f64s_get T _ hPl)
  injection hgx with hgx
  injection hgx with hg1 hg2
  subst hg1
  subst hg2
  have hv : T.getD (a * C + b) 0 = T[a * C + b] := getD_of_lt hPl
  rw [hv]
  have HB := Lib.hid ((Below.refl w.heap.size w).alloc (Nat.le_refl _) (.cells #[.int .i64 R, .int .i64 C, .slice (some ⟨gT, 0, none⟩) N cT] 32))
  have hcell := cell_below hcell0 HB.out
  generalize T[a * C + b] = v at *
  obtain ⟨p, hp⟩ : ∃ p, a * C = p := ⟨_, rfl⟩
  obtain ⟨P, hPd⟩ : ∃ P, p + b = P := ⟨_, rfl⟩
  have e1 : ((a : Int) * (C : Int)) = (p : Int) := by rw [← hp]; simp
  have e2 : (p : Int) + (b : Int) = (P : Int) := by rw [← hPd]; simp
  have hPN : P < N := by rw [← hPd, ← hp]; exact hab
  have HW := Lib.hid (wrap3 (o := b) (a := p) (P := P) (by omega) (by rw [← hPd, Nat.add_comm]))
  rw [hp, hPd, Nat.zero_add] at hcell
  have b1 : (P : Int) < (N : Int) := by omega
  have b0 : (0 : Int) ≤ (P : Int) := by omega
  have b2 := hPN
  clear hPl hcell0 hv hp hPd hPN hT hTl hab
  obtain ⟨u1, u2, u3, u4⟩ := HW.out
  go_enter Try.func21, Try.ntmps21
  go_wp2_with fail
  go_ret
  exact ⟨rfl, HB.out⟩

theorem owns_nxtg {w w' : World} {B : Nat} {e : TypeId} {s : Nat} {v : Value} {n : Nat} {xs : List Value} (h : w.ownsRow B e s v n xs) (hb : Below w.heap.size w w') : w'.ownsRow B e s v n xs := by
  refine ⟨h.1, h.2.imp id ?_⟩
  rintro ⟨g, cap, cur, h1, h2, h3, h4⟩
  have hg : g < w.heap.size := by
    rcases Nat.lt_or_ge g w.heap.size with hl | hl
    · exact hl
    · rw [Array.getElem?_eq_none hl] at h3; cases h3
  exact ⟨g, cap, cur, h1, h2, (hb.block g hg).trans h3, h4⟩

theorem own_lo {w : World} {B B' : Nat} {e : TypeId} {s n : Nat} {v : Value} {xs : List Value} (h : w.ownsRow B e s v n xs) (hb : B' ≤ B) : w.ownsRow B' e s v n xs := by
  obtain ⟨hl, h | ⟨g, cap, cur, h1, h2, h3⟩⟩ := h
  · exact ⟨hl, .inl h⟩
  · exact ⟨hl, .inr ⟨g, cap, cur, h1, Nat.le_trans hb h2, h3⟩⟩
/-- A table is filled row by row: the first rows' numbers, and the next row's first, are what was asked. -/
def Ptb (N : Nat) (pos : Nat → Nat → Nat) (R C : Nat) (P : Nat → Nat → Nat → Prop) (i j : Nat) (T : List Nat) : Prop :=
  T.length = N ∧ ∀ a, a < R → ∀ b, b < C → (a < i ∨ (a = i ∧ b < j)) → P a b (T.getD (pos a b) 0)
theorem Ptb.zero {N R C : Nat} {pos : Nat → Nat → Nat} {P : Nat → Nat → Nat → Prop} {T : List Nat} (h : T.length = N) : Ptb N pos R C P 0 0 T := ⟨h, fun a _ b _ h => by omega⟩
theorem Ptb.next {N R C i : Nat} {pos : Nat → Nat → Nat} {P : Nat → Nat → Nat → Prop} {T : List Nat} (h : Ptb N pos R C P i C T) : Ptb N pos R C P (i + 1) 0 T :=
  ⟨h.1, fun a ha b hb e => h.2 a ha b hb (by omega)⟩
theorem Ptb.done {N R C : Nat} {pos : Nat → Nat → Nat} {P : Nat → Nat → Nat → Prop} {T : List Nat} (h : Ptb N pos R C P R 0 T) : ∀ a, a < R → ∀ b, b < C → P a b (T.getD (pos a b) 0) :=
  fun a ha b hb => h.2 a ha b hb (.inl ha)
theorem Ptb.step {N R C i j r : Nat} {pos : Nat → Nat → Nat} {P : Nat → Nat → Nat → Prop} {T : List Nat} (h : Ptb N pos R C P i j T) (hinj : ∀ a, a < R → ∀ b, b < C → pos a b = pos i j → a = i ∧ b = j) (hp : pos i j < N) (hr : P i j r) : Ptb N pos R C P i (j + 1) (T.set (pos i j) r) := by
  refine ⟨by rw [List.length_set]; exact h.1, fun a ha b hb e => ?_⟩
  by_cases h1 : a = i ∧ b = j
  · obtain ⟨rfl, rfl⟩ := h1
    rw [getD_set_self (by rw [h.1]; exact hp)]
    exact hr
  · rw [getD_set_ne _ (fun e2 => h1 (hinj a ha b hb e2.symm))]
    exact h.2 a ha b hb (by omega)
/-- A list that is no longer nil, and empty; a list of its own; a table. -/
def EmS (W : World) (v : Value) (z : Nat) : Prop := W.ownsRow (z + 2) 45 1 v 0 [] ∧ v ≠ .slice none 0 0
def SlQ (W : World) (v : Value) (z N : Nat) (T : List Nat) : Prop := ∃ g c, v = .slice (some ⟨g, 0, none⟩) N c ∧ Own W g T ∧ z + 2 ≤ g
def TbO (W : World) (v : Value) (z R C N : Nat) (T : List Nat) : Prop := ∃ g c, v = .agg #[.int .i64 (R : Int), .int .i64 (C : Int), .slice (some ⟨g, 0, none⟩) N c] ∧ Own W g T ∧ z + 2 ≤ g
theorem EmS.below {W W' : World} {v : Value} {z : Nat} (h : EmS W v z) (hb : Below W.heap.size W W') : EmS W' v z := ⟨owns_nxtg h.1 hb, h.2⟩
theorem EmS.new (W : World) (z : Nat) (h : z + 2 ≤ W.heap.size) : EmS (W.alloc (.cells #[] 45)) (.slice (some ⟨W.heap.size, 0, none⟩) 0 0) z := ⟨own_lo (own_empty W) h, by simp⟩
theorem SlQ.below {W W' : World} {v : Value} {z N : Nat} {T : List Nat} (h : SlQ W v z N T) (hb : Below W.heap.size W W') : SlQ W' v z N T := by
  obtain ⟨g, c, h1, h2, h3⟩ := h; exact ⟨g, c, h1, h2.nxt hb, h3⟩
theorem TbO.below {W W' : World} {v : Value} {z R C N : Nat} {T : List Nat} (h : TbO W v z R C N T) (hb : Below W.heap.size W W') : TbO W' v z R C N T := by
  obtain ⟨g, c, h1, h2, h3⟩ := h; exact ⟨g, c, h1, h2.nxt hb, h3⟩
/-- The boxes of Copy, before and behind the last store. -/
def CopB (w : World) (z : Nat) (tb : Array Value) (R C N : Nat) (T : List Nat) (b : Bool) (W : World) : Prop :=
  Below z w W ∧ Blk W z 32 tb ∧ (b = false → Blk W (z + 1) 32 #[.int .i64 0, .int .i64 0, .slice none 0 0]) ∧ (b = true → ∃ g c, Blk W (z + 1) 32 #[.int .i64 (R : Int), .int .i64 (C : Int), .slice (some ⟨g, 0, none⟩) N c] ∧ Own W g T ∧ z + 2 ≤ g)
theorem CopB.nxt {w W W' : World} {z : Nat} {tb : Array Value} {R C N : Nat} {T : List Nat} {b : Bool} (hz : z = w.heap.size) (h : CopB w z tb R C N T b W) (hb : Below W.heap.size W W') : CopB w z tb R C N T b W' := by
  subst hz
  refine ⟨below_nx h.1 hb, h.2.1.nxt hb, fun e => (h.2.2.1 e).nxt hb, fun e => ?_⟩
  obtain ⟨g, c, h1, h2, h3⟩ := h.2.2.2 e
  exact ⟨g, c, h1.nxt hb, h2.nxt hb, h3⟩
end Go.Proofs.Ytelpdbkkefpjhaa
