/-
Ger: the document's Copy of a table, Set, what counts of an exponent. Conditions: as each says.
-/
import Derived.Test.YtcdhpoikppfjkaaWbal
import Derived.Test.YtcdhpoikppfjkaaWbad
import Derived.Test.YtcdhpoikppfjkaaWbah
import Derived.Test.YtcdhpoikppfjkaaWbai
import Derived.Test.YtcdhpoikppfjkaaWbaj
import Derived.Test.YtcdhpoikppfjkaaWbaf
import Derived.Deep.RegionWith
import Derived.Test.YtcdhpoikppfjkaaZAGvC
import Derived.Test.YtcdhpoikppfjkaaWbao
set_option linter.unusedVariables false
set_option linter.unusedSimpArgs false
set_option linter.unnecessarySimpa false
namespace Go.Proofs.Ytcdhpoikppfjkaa
open Go.RowKit
attribute [local go_sem ↓] Go.wp_at_zero Go.wp_at_succ

theorem owns_nxtg {w w' : World} {B : Nat} {e : TypeId} {s : Nat} {v : Value} {n : Nat} {xs : List Value} (h : w.ownsRow B e s v n xs) (hb : Below w.heap.size w w') : w'.ownsRow B e s v n xs := by
  refine ⟨h.1, h.2.imp id ?_⟩
  rintro ⟨g, cap, cur, h1, h2, h3, h4⟩
  have hg : g < w.heap.size := by
    rcases Nat.lt_or_ge g w.heap.size with hl | hl
    · exact hl
    · rw [Array.getElem?_eq_none hl] at h3; cases h3
  exact ⟨g, cap, cur, h1, h2, (hb.block g hg).trans h3, h4⟩

theorem own_lo {w : World} {B B' : Nat} {e : TypeId} {s n : Nat} {v : Value} {xs : List Value} (h : w.ownsRow B e s v n xs) (hb : B' ≤ B) : w.ownsRow B' e s v n xs := by
  obtain ⟨hl, h | ⟨g, cap, cur, h1, h2, h3⟩⟩ := h
  · exact ⟨hl, .inl h⟩
  · exact ⟨hl, .inr ⟨g, cap, cur, h1, Nat.le_trans hb h2, h3⟩⟩
/-- A table is filled row by row: the first rows' numbers, and the next row's first, are what was asked. -/
def Ptb (N : Nat) (pos : Nat → Nat → Nat) (R C : Nat) (P : Nat → Nat → Nat → Prop) (i j : Nat) (T : List Nat) : Prop :=
  T.length = N ∧ ∀ a, a < R → ∀ b, b < C → (a < i ∨ (a = i ∧ b < j)) → P a b (T.getD (pos a b) 0)
theorem Ptb.zero {N R C : Nat} {pos : Nat → Nat → Nat} {P : Nat → Nat → Nat → Prop} {T : List Nat} (h : T.length = N) : Ptb N pos R C P 0 0 T := ⟨h, fun a _ b _ h => by omega⟩
theorem Ptb.next {N R C i : Nat} {pos : Nat → Nat → Nat} {P : Nat → Nat → Nat → Prop} {T : List Nat} (h : Ptb N pos R C P i C T) : Ptb N pos R C P (i + 1) 0 T :=
  ⟨h.1, fun a ha b hb e => h.2 a ha b hb (by omega)⟩
theorem Ptb.done {N R C : Nat} {pos : Nat → Nat → Nat} {P : Nat → Nat → Nat → Prop} {T : List Nat} (h : Ptb N pos R C P R 0 T) : ∀ a, a < R → ∀ b, b < C → P a b (T.getD (pos a b) 0) :=
  fun a ha b hb => h.2 a ha b hb (.inl ha)
theorem Ptb.step {N R C i j r : Nat} {pos : Nat → Nat → Nat} {P : Nat → Nat → Nat → Prop} {T : List Nat} (h : Ptb N pos R C P i j T) (hinj : ∀ a, a < R → ∀ b, b < C → pos a b = pos i j → a = i ∧ b = j) (hp : pos i j < N) (hr : P i j r) : Ptb N pos R C P i (j + 1) (T.set (pos i j) r) := by
  refine ⟨by rw [List.length_set]; exact h.1, fun a ha b hb e => ?_⟩
  by_cases h1 : a = i ∧ b = j
  · obtain ⟨rfl, rfl⟩ := h1
    rw [getD_set_self (by rw [h.1]; exact hp)]
    exact hr
  · rw [getD_set_ne _ (fun e2 => h1 (hinj a ha b hb e2.symm))]
    exact h.2 a ha b hb (by omega)
/-- A list that is no longer nil, and empty; a list of its own; a table. -/
def EmS (W : World) (v : Value) (z : Nat) : Prop := W.ownsRow (z + 2) 43 1 v 0 [] ∧ v ≠ .slice none 0 0
def SlQ (W : World) (v : Value) (z N : Nat) (T : List Nat) : Prop := ∃ g c, v = .slice (some ⟨g, 0, none⟩) N c ∧ Own W g T ∧ z + 2 ≤ g
def TbO (W : World) (v : Value) (z R C N : Nat) (T : List Nat) : Prop := ∃ g c, v = .agg #[.int .i64 (R : Int), .int .i64 (C : Int), .slice (some ⟨g, 0, none⟩) N c] ∧ Own W g T ∧ z + 2 ≤ g
theorem EmS.below {W W' : World} {v : Value} {z : Nat} (h : EmS W v z) (hb : Below W.heap.size W W') : EmS W' v z := ⟨owns_nxtg h.1 hb, h.2⟩
theorem EmS.new (W : World) (z : Nat) (h : z + 2 ≤ W.heap.size) : EmS (W.alloc (.cells #[] 43)) (.slice (some ⟨W.heap.size, 0, none⟩) 0 0) z := ⟨own_lo (own_empty W) h, by simp⟩
theorem SlQ.below {W W' : World} {v : Value} {z N : Nat} {T : List Nat} (h : SlQ W v z N T) (hb : Below W.heap.size W W') : SlQ W' v z N T := by
  obtain ⟨g, c, h1, h2, h3⟩ := h; exact ⟨g, c, h1, h2.nxt hb, h3⟩
theorem TbO.below {W W' : World} {v : Value} {z R C N : Nat} {T : List Nat} (h : TbO W v z R C N T) (hb : Below W.heap.size W W') : TbO W' v z R C N T := by
  obtain ⟨g, c, h1, h2, h3⟩ := h; exact ⟨g, c, h1, h2.nxt hb, h3⟩
/-- The boxes of Copy, before and behind the last store. -/
def CopB (w : World) (z : Nat) (tb : Array Value) (R C N : Nat) (T : List Nat) (b : Bool) (W : World) : Prop :=
  Below z w W ∧ Blk W z 31 tb ∧ (b = false → Blk W (z + 1) 31 #[.int .i64 0, .int .i64 0, .slice none 0 0]) ∧ (b = true → ∃ g c, Blk W (z + 1) 31 #[.int .i64 (R : Int), .int .i64 (C : Int), .slice (some ⟨g, 0, none⟩) N c] ∧ Own W g T ∧ z + 2 ≤ g)
theorem CopB.nxt {w W W' : World} {z : Nat} {tb : Array Value} {R C N : Nat} {T : List Nat} {b : Bool} (hz : z = w.heap.size) (h : CopB w z tb R C N T b W) (hb : Below W.heap.size W W') : CopB w z tb R C N T b W' := by
  subst hz
  refine ⟨below_nx h.1 hb, h.2.1.nxt hb, fun e => (h.2.2.1 e).nxt hb, fun e => ?_⟩
  obtain ⟨g, c, h1, h2, h3⟩ := h.2.2.2 e
  exact ⟨g, c, h1.nxt hb, h2.nxt hb, h3⟩
end Go.Proofs.Ytcdhpoikppfjkaa
/-
Gemm: the document's Mul. Conditions: the tables have fewer than 2^20 numbers.
-/
set_option linter.unusedVariables false
set_option linter.unusedSimpArgs false
set_option linter.unnecessarySimpa false
namespace Go.Proofs.Ytcdhpoikppfjkaa
open Go.RowKit
attribute [local go_sem ↓] Go.wp_at_zero Go.wp_at_succ

def GeTS (a : Nat) (TX : List Nat) (K : Nat) (TY : List Nat) (C i j k s r : Nat) : Prop := ∃ p, MulR a (TX.getD (i * K + k) 0) (TY.getD (k * C + j) 0) p ∧ Comes .add s p r
def GeT (a b : Nat) (TX : List Nat) (K : Nat) (TY TZ : List Nat) (C i j r : Nat) : Prop := ∃ s, BegR b (TZ.getD (i * C + j) 0) s ∧ Chn (GeTS a TX K TY C i j) s K r

end Go.Proofs.Ytcdhpoikppfjkaa
/-
Gemm: by both the same numbers; the law's example. Conditions: as each says.
-/
set_option linter.unusedVariables false
set_option linter.unusedSimpArgs false
set_option linter.unnecessarySimpa false
namespace Go.Proofs.Ytcdhpoikppfjkaa
open Go.RowKit
attribute [local go_sem ↓] Go.wp_at_zero Go.wp_at_succ

theorem wds_of_getDe {l : List Nat} (h : ∀ k, k < l.length → l.getD k 0 < 18446744073709551616) : Wds l := by
  intro b hb
  obtain ⟨k, hk, rfl⟩ := List.mem_iff_getElem.1 hb
  rw [← getD_of_lt hk]
  exact h k hk
theorem wds_imre {l l' : List Nat} {o R C L : Nat} {P : Nat → Nat → Nat → Prop} (hl : Wds l) (h : Imr l o R C L P l') (hp : ∀ a, a < R → ∀ b, b < C → ∀ r, P a b r → r < 18446744073709551616) : Wds l' := by
  refine wds_of_getDe fun x hx => ?_
  by_cases e : ∃ a, a < R ∧ ∃ b, b < C ∧ x = o + a + b * L
  · obtain ⟨a, ha, b, hb, rfl⟩ := e
    exact hp a ha b hb _ (h.2.1 a ha b hb)
  · rw [h.2.2 x (fun a ha b hb e3 => e ⟨a, ha, b, hb, e3⟩)]
    exact getD_wds hl _
theorem Is.trans_eq {r z z' : Nat} (h : Is r z) (e : z = z') : Is r z' := e ▸ h
/-- The number that Mul makes. -/
def geF (a b z : Nat) (f g : Nat → Nat) (K : Nat) : Nat := chnF (begF b z) (fun k => fbin .mul (fbin .mul a (g k)) (f k)) K
theorem GeR.is_ {a b : Nat} {l : List Nat} {o L : Nat} {lx : List Nat} {om Lm : Nat} {ly : List Nat} {oy Ly K i j r : Nat} (ha : a < 18446744073709551616) (hb : b < 18446744073709551616) (hW : Wds l) (hx : Wds lx) (hy : Wds ly) (h : GeR a b l o L lx om Lm ly oy Ly K i j r) :
    Is r (geF a b (l.getD (o + i + j * L) 0) (fun k => lx.getD (om + i + k * Lm) 0) (fun k => ly.getD (oy + k + j * Ly) 0) K) := by
  have := MulQ.is_ ha hb hW hx hy h
  unfold geF
  have e : o + j * L + i * 1 = o + i + j * L := by omega
  rw [e] at this
  refine this.trans_eq (chnF_congr _ K fun k _ => ?_)
  have e1 : oy + j * Ly + k * 1 = oy + k + j * Ly := by omega
  have e2 : om + k * Lm + i = om + i + k * Lm := by omega
  rw [e1, e2]
theorem GeT.is_ {a b : Nat} {TX : List Nat} {K : Nat} {TY TZ : List Nat} {C i j r : Nat} (ha : a < 18446744073709551616) (hb : b < 18446744073709551616) (hx : Wds TX) (hy : Wds TY) (hz : Wds TZ) (h : GeT a b TX K TY TZ C i j r) :
    Is r (geF a b (TZ.getD (i * C + j) 0) (fun k => TX.getD (i * K + k) 0) (fun k => TY.getD (k * C + j) 0) K) := by
  obtain ⟨s, h1, h2⟩ := h
  exact Chn.is_ (h1.is_ hb (Is.refl (getD_wds hz _))) (fun k _ s r hS => by
    obtain ⟨p, k1, k2⟩ := hS
    exact ⟨p, MulR.is_ ha (getD_wds hx _) (getD_wds hy _) k1, k2⟩) h2
/-! ### The law's example. -/
/-- A new list; a matrix in a list of its own. -/
def NwL (W : World) (v : Value) (l : List Nat) (n : Nat) : Prop := ∃ g, v = .slice (some ⟨g, 0, none⟩) n n ∧ Own W g l
def NwM (W : World) (v : Value) (z : Nat) (l : List Nat) (n R C D : Nat) : Prop := ∃ g, v = .agg #[.slice (some ⟨g, 0, none⟩) n n, .int .i64 0, .int .i64 (R : Int), .int .i64 (C : Int), .int .i64 (D : Int)] ∧ Own W g l ∧ z ≤ g
theorem NwL.below {W W' : World} {v : Value} {l : List Nat} {n : Nat} (h : NwL W v l n) (hb : Below W.heap.size W W') : NwL W' v l n := by
  obtain ⟨g, h1, h2⟩ := h; exact ⟨g, h1, h2.nxt hb⟩
theorem NwM.below {W W' : World} {v : Value} {z : Nat} {l : List Nat} {n R C D : Nat} (h : NwM W v z l n R C D) (hb : Below W.heap.size W W') : NwM W' v z l n R C D := by
  obtain ⟨g, h1, h2, h3⟩ := h; exact ⟨g, h1, h2.nxt hb, h3⟩

end Go.Proofs.Ytcdhpoikppfjkaa
