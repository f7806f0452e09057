/-
Ger: what is handed in for each number; who meets. Conditions: as each says.
-/
import Derived.Test.YtbeefnekblepfaaUaak
import Derived.Test.YtbeefnekblepfaaUaal
import Derived.Test.YtbeefnekblepfaaUaam
import Derived.Test.YtbeefnekblepfaaUaao
import Derived.Test.YtbeefnekblepfaaZMwC
import Derived.Test.YtbeefnekblepfaaUaae
set_option linter.unusedVariables false
set_option linter.unusedSimpArgs false
set_option linter.unnecessarySimpa false
namespace Go.Proofs.Ytbeefnekblepfaa
open Go.RowKit
attribute [local go_sem ↓] Go.wp_at_zero Go.wp_at_succ

theorem gr_wds {l : List Nat} (h : Wds l) (k : Nat) : l.getD k 0 < 18446744073709551616 := by
  rcases Nat.lt_or_ge k l.length with h1 | h1
  · rw [getD_of_lt h1]; exact h.at_ k h1
  · rw [getD_of_le h1]; omega
end Go.Proofs.Ytbeefnekblepfaa
/-
Ger: the program's Ger, why not, and what it makes. Conditions: as each says.
-/
set_option linter.unusedVariables false
set_option linter.unusedSimpArgs false
set_option linter.unnecessarySimpa false
namespace Go.Proofs.Ytbeefnekblepfaa
open Go.RowKit
attribute [local go_sem ↓] Go.wp_at_zero Go.wp_at_succ

theorem cells1g {w : World} {g : Nat} {t : TypeId} {v : Value} (h : Blk w g t #[v]) : w.cell? ⟨g, 0, none⟩ = some v ∧ True := ⟨h.cell 0, trivial⟩
/-- What Ger makes of a number: a times y's, times x's, is added. -/
def GerR (a : Nat) (lx : List Nat) (ox ix : Nat) (ly : List Nat) (oy iy : Nat) (l : List Nat) (o L : Nat) (i j r : Nat) : Prop :=
  ∃ t p, Comes .mul a (ly.getD (oy + j * iy) 0) t ∧ Comes .mul t (lx.getD (ox + i * ix) 0) p ∧ Comes .add (l.getD (o + i + j * L) 0) p r
end Go.Proofs.Ytbeefnekblepfaa
/-
Ger: the document's Copy of a table, Set, what counts of an exponent. Conditions: as each says.
-/
set_option linter.unusedVariables false
set_option linter.unusedSimpArgs false
set_option linter.unnecessarySimpa false
namespace Go.Proofs.Ytbeefnekblepfaa
open Go.RowKit
attribute [local go_sem ↓] Go.wp_at_zero Go.wp_at_succ

theorem rat8_any (R C gT N cT : Nat) (T : List Nat) (a b : Nat) (w : World) (hT : Row w (some ⟨gT, 0, none⟩) (f64s T)) (hTl : T.length = N) (hN : N < 1048576) (hab : a * C + b < N) :
    Calls Try.prog 25 #[.agg #[.int .i64 R, .int .i64 C, .slice (some ⟨gT, 0, none⟩) N cT], .int .i64 (a : Int), .int .i64 (b : Int)] w fun e w' => e = .returned (.float .f64 (T.getD (a * C + b) 0)) ∧ Below w.heap.size w w' := by
  have hPl : a * C + b < T.length := by rw [hTl]; exact hab
  obtain ⟨gb, x, hgx, _, hcell0⟩ := hT.at_ (f64s_get T _ hPl)
  injection hgx with hgx
  injection hgx with hg1 hg2
  subst hg1
  subst hg2
  have hv : T.getD (a * C + b) 0 = T[a * C + b] := getD_of_lt hPl
  rw [hv]
  have HB := Lib.hid ((Below.refl w.heap.size w).alloc (Nat.le_refl _) (.cells #[.int .i64 R, .int .i64 C, .slice (some ⟨gT, 0, none⟩) N cT] 39))
  have hcell := cell_below hcell0 HB.out
  generalize T[a * C + b] = v at *
  obtain ⟨p, hp⟩ : ∃ p, a * C = p := ⟨_, rfl⟩
  obtain ⟨P, hPd⟩ : ∃ P, p + b = P := ⟨_, rfl⟩
  have e1 : ((a : Int) * (C : Int)) = (p : Int) := by rw [← hp]; simp
  have e2 : (p : Int) + (b : Int) = (P : Int) := by rw [← hPd]; simp
  have hPN : P < N := by rw [← hPd, ← hp]; exact hab
  have HW := Lib.hid (wrap3 (o := b) (a := p) (P := P) (by omega) (by rw [← hPd, Nat.add_comm]))
  rw [hp, hPd, Nat.zero_add] at hcell
  have b1 : (P : Int) < (N : Int) := by omega
  have b0 : (0 : Int) ≤ (P : Int) := by omega
  have b2 := hPN
  clear hPl hcell0 hv hp hPd hPN hT hTl hab
  obtain ⟨u1, u2, u3, u4⟩ := HW.out
  go_enter Try.func25, Try.ntmps25
  go_wp2_with fail
  go_ret
  exact ⟨rfl, HB.out⟩

theorem owns_nxtg {w w' : World} {B : Nat} {e : TypeId} {s : Nat} {v : Value} {n : Nat} {xs : List Value} (h : w.ownsRow B e s v n xs) (hb : Below w.heap.size w w') : w'.ownsRow B e s v n xs := by
  refine ⟨h.1, h.2.imp id ?_⟩
  rintro ⟨g, cap, cur, h1, h2, h3, h4⟩
  have hg : g < w.heap.size := by
    rcases Nat.lt_or_ge g w.heap.size with hl | hl
    · exact hl
    · rw [Array.getElem?_eq_none hl] at h3; cases h3
  exact ⟨g, cap, cur, h1, h2, (hb.block g hg).trans h3, h4⟩

theorem own_lo {w : World} {B B' : Nat} {e : TypeId} {s n : Nat} {v : Value} {xs : List Value} (h : w.ownsRow B e s v n xs) (hb : B' ≤ B) : w.ownsRow B' e s v n xs := by
  obtain ⟨hl, h | ⟨g, cap, cur, h1, h2, h3⟩⟩ := h
  · exact ⟨hl, .inl h⟩
  · exact ⟨hl, .inr ⟨g, cap, cur, h1, Nat.le_trans hb h2, h3⟩⟩
theorem blk3g {W : World} {b p : Nat} {t : TypeId} {cs : Array Value} (h : Blk W b t cs) (hne : b ≠ p) (x0 x1 x2 : Value) : Blk (((W.setCell ⟨p, 0, none⟩ x0).setCell ⟨p, 1, none⟩ x1).setCell ⟨p, 2, none⟩ x2) b t cs := (heap_sets3 hne x0 x1 x2).trans h
theorem own3g {W : World} {b p : Nat} {l : List Nat} (h : Own W b l) (hne : b ≠ p) (x0 x1 x2 : Value) : Own (((W.setCell ⟨p, 0, none⟩ x0).setCell ⟨p, 1, none⟩ x1).setCell ⟨p, 2, none⟩ x2) b l := by
  obtain ⟨cs, h1, h2⟩ := h
  exact ⟨cs, blk3g h1 hne _ _ _, h2⟩
theorem below3g {z : Nat} {w W : World} (h : Below z w W) {p : Nat} (hz : z ≤ p) (x0 x1 x2 : Value) : Below z w (((W.setCell ⟨p, 0, none⟩ x0).setCell ⟨p, 1, none⟩ x1).setCell ⟨p, 2, none⟩ x2) :=
  ((h.setCell (p := ⟨p, 0, none⟩) hz x0).setCell (p := ⟨p, 1, none⟩) hz x1).setCell (p := ⟨p, 2, none⟩) hz x2
theorem rset_own (r k : Int) (g n c : Nat) (T : List Nat) (i j p v : Nat) (w : World) (hO : Own w g T) (hT : T.length = n) (hp : p < n) (hn : n < 9223372036854775808) (he : (i : Int) * k + (j : Int) = (p : Int)) (hm : I64 ((i : Int) * k)) :
    Calls Try.prog 30 #[tbl r k g n c, .int .i64 i, .int .i64 j, .float .f64 v] w fun e w' => e = .returned (.tuple #[]) ∧ Own w' g (T.set p v) ∧ Only g w w' := by
  unfold I64 at hm
  have hO2 := hO.nxt (below_one (W := w) (o := .cells #[.int .i64 r, .int .i64 k, .slice (some ⟨g, 0, none⟩) n c] 39))
  have c0 := hO2.get p (by omega)
  have f0 := hO2.frozen p
  have HS := Lib.hid ((hO.set_ p v (by omega)).nxt (below_one (o := .cells #[.int .i64 r, .int .i64 k, .slice (some ⟨g, 0, none⟩) n c] 39)))
  have HO := Lib.hid (((Only.refl g w).set_ p (.float .f64 v)).alloc_ (.cells #[.int .i64 r, .int .i64 k, .slice (some ⟨g, 0, none⟩) n c] 39))
  obtain ⟨x, hx⟩ : ∃ x, T[p]'(by omega) = x := ⟨_, rfl⟩
  rw [hx] at c0
  have w1 : IntKind.i64.wrap ((i : Int) * k) = (i : Int) * k := wrapi (by omega) (by omega)
  have w2 : IntKind.i64.wrap (p : Int) = (p : Int) := wrapi (by omega) (by omega)
  have hpn : (p : Int) < (n : Int) := by omega
  have hlt := hO.lt
  clear hx hO2 hO
  unfold tbl
  go_enter Try.func30, Try.ntmps30
  go_wp2_with fail
  go_end0
  exact ⟨rfl, HS.out, HO.out⟩
/-- A table is filled row by row: the first rows' numbers, and the next row's first, are what was asked. -/
def Ptb (N : Nat) (pos : Nat → Nat → Nat) (R C : Nat) (P : Nat → Nat → Nat → Prop) (i j : Nat) (T : List Nat) : Prop :=
  T.length = N ∧ ∀ a, a < R → ∀ b, b < C → (a < i ∨ (a = i ∧ b < j)) → P a b (T.getD (pos a b) 0)
theorem Ptb.zero {N R C : Nat} {pos : Nat → Nat → Nat} {P : Nat → Nat → Nat → Prop} {T : List Nat} (h : T.length = N) : Ptb N pos R C P 0 0 T := ⟨h, fun a _ b _ h => by omega⟩
theorem Ptb.next {N R C i : Nat} {pos : Nat → Nat → Nat} {P : Nat → Nat → Nat → Prop} {T : List Nat} (h : Ptb N pos R C P i C T) : Ptb N pos R C P (i + 1) 0 T :=
  ⟨h.1, fun a ha b hb e => h.2 a ha b hb (by omega)⟩
theorem Ptb.done {N R C : Nat} {pos : Nat → Nat → Nat} {P : Nat → Nat → Nat → Prop} {T : List Nat} (h : Ptb N pos R C P R 0 T) : ∀ a, a < R → ∀ b, b < C → P a b (T.getD (pos a b) 0) :=
  fun a ha b hb => h.2 a ha b hb (.inl ha)
theorem Ptb.step {N R C i j r : Nat} {pos : Nat → Nat → Nat} {P : Nat → Nat → Nat → Prop} {T : List Nat} (h : Ptb N pos R C P i j T) (hinj : ∀ a, a < R → ∀ b, b < C → pos a b = pos i j → a = i ∧ b = j) (hp : pos i j < N) (hr : P i j r) : Ptb N pos R C P i (j + 1) (T.set (pos i j) r) := by
  refine ⟨by rw [List.length_set]; exact h.1, fun a ha b hb e => ?_⟩
  by_cases h1 : a = i ∧ b = j
  · obtain ⟨rfl, rfl⟩ := h1
    rw [getD_set_self (by rw [h.1]; exact hp)]
    exact hr
  · rw [getD_set_ne _ (fun e2 => h1 (hinj a ha b hb e2.symm))]
    exact h.2 a ha b hb (by omega)
theorem tab_injg {C a b a' b' : Nat} (hb : b < C) (hb' : b' < C) (h : a * C + b = a' * C + b') : a = a' ∧ b = b' := by
  have h2 : b + a * C = b' + a' * C := by omega
  have := spots_inj hb hb' h2
  exact ⟨this.2, this.1⟩
theorem tab_facts {R C N i j : Nat} (hN : R * C = N) (hNb : N ≤ 1048576) (hi : i < R) (hj : j < C) : i * C + j < N ∧ I64 ((i : Int) * (C : Int)) ∧ (i : Int) * (C : Int) + (j : Int) = ((i * C + j : Nat) : Int) := by
  have h1 := tab_lt hi hj
  have e : (i : Int) * (C : Int) = ((i * C : Nat) : Int) := by simp
  rw [e]
  unfold I64
  omega
/-- A number of the table has been set. -/
def SetD (g p : Nat) (R : Nat → Prop) (T1 : List Nat) (wr W : World) : Prop := ∃ W' r, Below wr.heap.size wr W' ∧ R r ∧ Own W g (T1.set p r) ∧ Only g W' W
/-- A list that is no longer nil, and empty; a list of its own; a table. -/
def EmS (W : World) (v : Value) (z : Nat) : Prop := W.ownsRow (z + 2) 23 1 v 0 [] ∧ v ≠ .slice none 0 0
def SlQ (W : World) (v : Value) (z N : Nat) (T : List Nat) : Prop := ∃ g c, v = .slice (some ⟨g, 0, none⟩) N c ∧ Own W g T ∧ z + 2 ≤ g
def TbO (W : World) (v : Value) (z R C N : Nat) (T : List Nat) : Prop := ∃ g c, v = .agg #[.int .i64 (R : Int), .int .i64 (C : Int), .slice (some ⟨g, 0, none⟩) N c] ∧ Own W g T ∧ z + 2 ≤ g
theorem EmS.below {W W' : World} {v : Value} {z : Nat} (h : EmS W v z) (hb : Below W.heap.size W W') : EmS W' v z := ⟨owns_nxtg h.1 hb, h.2⟩
theorem EmS.new (W : World) (z : Nat) (h : z + 2 ≤ W.heap.size) : EmS (W.alloc (.cells #[] 23)) (.slice (some ⟨W.heap.size, 0, none⟩) 0 0) z := ⟨own_lo (own_empty W) h, by simp⟩
theorem SlQ.below {W W' : World} {v : Value} {z N : Nat} {T : List Nat} (h : SlQ W v z N T) (hb : Below W.heap.size W W') : SlQ W' v z N T := by
  obtain ⟨g, c, h1, h2, h3⟩ := h; exact ⟨g, c, h1, h2.nxt hb, h3⟩
theorem TbO.below {W W' : World} {v : Value} {z R C N : Nat} {T : List Nat} (h : TbO W v z R C N T) (hb : Below W.heap.size W W') : TbO W' v z R C N T := by
  obtain ⟨g, c, h1, h2, h3⟩ := h; exact ⟨g, c, h1, h2.nxt hb, h3⟩
/-- The boxes of Copy, before and behind the last store. -/
def CopB (w : World) (z : Nat) (tb : Array Value) (R C N : Nat) (T : List Nat) (b : Bool) (W : World) : Prop :=
  Below z w W ∧ Blk W z 39 tb ∧ (b = false → Blk W (z + 1) 39 #[.int .i64 0, .int .i64 0, .slice none 0 0]) ∧ (b = true → ∃ g c, Blk W (z + 1) 39 #[.int .i64 (R : Int), .int .i64 (C : Int), .slice (some ⟨g, 0, none⟩) N c] ∧ Own W g T ∧ z + 2 ≤ g)
theorem CopB.nxt {w W W' : World} {z : Nat} {tb : Array Value} {R C N : Nat} {T : List Nat} {b : Bool} (hz : z = w.heap.size) (h : CopB w z tb R C N T b W) (hb : Below W.heap.size W W') : CopB w z tb R C N T b W' := by
  subst hz
  refine ⟨below_nx h.1 hb, h.2.1.nxt hb, fun e => (h.2.2.1 e).nxt hb, fun e => ?_⟩
  obtain ⟨g, c, h1, h2, h3⟩ := h.2.2.2 e
  exact ⟨g, c, h1.nxt hb, h2.nxt hb, h3⟩
theorem copy_app {w W : World} {z : Nat} {tb : Array Value} {R C N gT cT : Nat} {T : List Nat} {v : Value} (hz : z = w.heap.size) (h : CopB w z tb R C N T false W) (he : EmS W v z) (hT : Row w (some ⟨gT, 0, none⟩) (f64s T)) (hl : T.length = N) (hN : N ≤ 1048576) :
    ∃ v' w', (Builtin.append_ #[24, 24] 24 #[v, .slice (some ⟨gT, 0, none⟩) N cT]).run Try.prog W = .ok v' w' ∧ SlQ w' v' z N T ∧ CopB w z tb R C N T false w' := by
  obtain ⟨i0, hi, hz0, hz1, hz2⟩ := fi0
  subst hz
  have hT2 : Row W (some ⟨gT, 0, none⟩) (f64s T) := hT.below h.1
  have hsz := (h.2.2.1 rfl).lt
  obtain ⟨v', w', r1, r2, r3, r4⟩ := run_append_own W (w.heap.size + 2) 24 24 23 i0 (.float .f64 0) 1 8 Try.underlying24 hi hz0 hz1 hz2 rfl (by decide) v 0 [] he.1 ⟨gT, 0, none⟩ N cT (f64s T) (by simp [f64s, hl]) (row_add hT2) (one_cells T) (by unfold maxLen; omega) (by omega) (by omega)
  have hne : v' ≠ .slice none 0 0 := fun e => he.2 (r4.1 e).1
  have r2' : w'.ownsRow (w.heap.size + 2) 23 1 v' N (f64s T) := by simpa using r2
  obtain ⟨g, c, e1, e2, _, _, e3⟩ := own_of r2' hne hl.symm
  have hlo := fun k (hk : v.ownBlock = some k) => (he.1.lt k hk).1
  refine ⟨v', w', r1, ⟨g, c, e1, e3, e2⟩, h.1.grown r3 (by omega) (fun k hk => by have := hlo k hk; omega), ?_, fun _ => ?_, fun e => by cases e⟩
  · exact (r3.block _ h.2.1.lt (fun e => by have := hlo _ e.symm; omega)).trans h.2.1
  · exact (r3.block _ hsz (fun e => by have := hlo _ e.symm; omega)).trans (h.2.2.1 rfl)

end Go.Proofs.Ytbeefnekblepfaa
/-
Ger: the document's Ger, Shift, Turn. Conditions: the lists have at most 2^20 numbers.
-/
set_option linter.unusedVariables false
set_option linter.unusedSimpArgs false
set_option linter.unnecessarySimpa false
namespace Go.Proofs.Ytbeefnekblepfaa
open Go.RowKit
attribute [local go_sem ↓] Go.wp_at_zero Go.wp_at_succ

def GerT (a : Nat) (X Y T : List Nat) (C i j r : Nat) : Prop := ∃ t p, Comes .mul a (Y.getD j 0) t ∧ Comes .mul t (X.getD i 0) p ∧ Comes .add (T.getD (i * C + j) 0) p r
def TurnT (T : List Nat) (C i j r : Nat) : Prop := r = T.getD (i * C + j) 0
/-- What a call that makes a table comes to. -/
def RetT (r k N : Nat) (S : List Nat → Prop) (w : World) (e : Ending) (w' : World) : Prop := ∃ g c T', e = .returned (tbl r k g N c) ∧ Own w' g T' ∧ T'.length = N ∧ S T' ∧ w.heap.size ≤ g ∧ Below w.heap.size w w'
theorem flo_get {W : World} {B : Option Addr} {l : List Nat} {K i : Nat} (h : Row W B (f64s l)) (hl : l.length = K) (hi : i < K) : ∃ b y, B = some ⟨b, y, none⟩ ∧ W.cell? ⟨b, y + i, none⟩ = some (.float .f64 (l.getD i 0)) := by
  have h1 : i < l.length := by omega
  obtain ⟨b, y, e, _, hc⟩ := h.at_ (f64s_get l i h1)
  exact ⟨b, y, e, by rw [hc, getD_of_lt h1]⟩

end Go.Proofs.Ytbeefnekblepfaa
