/-
Words for memory: a slice that reads as a list; whole numbers and dyadic numbers as the program keeps them. Conditions: none.
-/
import Derived.Test.YtcdhpoikppfjkaaWaaa
import Derived.Test.YtcdhpoikppfjkaaRows
import Derived.WalkKit
import Derived.Below
import Derived.Laws.Rows
import Derived.Deep.Draws
import Derived.Laws.OwnMore
import Derived.Lib.Hide
import Derived.Laws.FloatBits
import GoSem.Core.Float
import Derived.WalkLawsBesides
import Derived.Laws.BitsAllLaws
import Derived.WalkSpells
import Derived.LoopTactic
import Derived.Outline
import Derived.Laws.Externs
set_option linter.unusedVariables false
namespace Go.Proofs.Ytcdhpoikppfjkaa
open Go.RowKit

theorem below_drewN {B : Nat} {a w : World} (h : Below B a w) (n : Nat) : Below B a (w.drewN n) := ⟨h.os, h.tape, h.output, h.size, h.block⟩
theorem block_lt {w : World} {b o : Nat} {v : Value} (h : w.cell? ⟨b, o, none⟩ = some v) : b < w.heap.size := by
  rcases Nat.lt_or_ge b w.heap.size with hl | hl
  · exact hl
  · simp [World.cell?, Array.getElem?_eq_none hl] at h
/-- The slice's cells are the list. -/
def Row (w : World) (A : Option Addr) (xs : List Value) : Prop := xs = [] ∨ ∃ b o, A = some ⟨b, o, none⟩ ∧ ∀ i v, xs[i]? = some v → w.cell? ⟨b, o + i, none⟩ = some v
theorem Row.nil (w : World) (A : Option Addr) : Row w A [] := .inl rfl
theorem Row.at_ {w : World} {A : Option Addr} {xs : List Value} {i : Nat} {v : Value} (h : Row w A xs) (hi : xs[i]? = some v) :
    ∃ b o, A = some ⟨b, o, none⟩ ∧ b < w.heap.size ∧ w.cell? ⟨b, o + i, none⟩ = some v := by
  rcases h with rfl | ⟨b, o, e, hc⟩
  · simp at hi
  · exact ⟨b, o, e, block_lt (hc i v hi), hc i v hi⟩
theorem Row.below {w w' : World} {A : Option Addr} {xs : List Value} (h : Row w A xs) (hb : Below w.heap.size w w') : Row w' A xs := by
  rcases h with rfl | ⟨b, o, e, hc⟩
  · exact .inl rfl
  · exact .inr ⟨b, o, e, fun i v hi => (hb.cell (p := ⟨b, o + i, none⟩) (block_lt (hc i v hi))).trans (hc i v hi)⟩
theorem Row.drewN {w : World} {A : Option Addr} {xs : List Value} (h : Row w A xs) (n : Nat) : Row (w.drewN n) A xs := h
/-- A cell below the block is as it was. -/
theorem cell_below {w w' : World} {b o : Nat} {v : Value} (h : w.cell? ⟨b, o, none⟩ = some v) (hb : Below w.heap.size w w') : w'.cell? ⟨b, o, none⟩ = some v := (hb.cell (p := ⟨b, o, none⟩) (block_lt h)).trans h

/-- Block g of the world is just these cells, none of them frozen. -/
def Blk (w : World) (g : Nat) (t : TypeId) (cs : Array Value) : Prop := w.heap[g]? = some (.cells cs t (0, 0))
section
variable {w w' : World} {g : Nat} {t : TypeId} {cs : Array Value}
theorem Blk.lt (h : Blk w g t cs) : g < w.heap.size := by
  rcases Nat.lt_or_ge g w.heap.size with hl | hl
  · exact hl
  · unfold Blk at h; rw [Array.getElem?_eq_none hl] at h; cases h
theorem Blk.cell (h : Blk w g t cs) (i : Nat) : w.cell? ⟨g, i, none⟩ = cs[i]? := cell_of_row w g i cs t (0, 0) h
theorem Blk.frozen (h : Blk w g t cs) (i : Nat) : w.frozen? ⟨g, i, none⟩ = false := by
  unfold Blk at h
  simp [World.frozen?, h]
theorem Blk.new (w : World) (t : TypeId) (cs : Array Value) : Blk (w.alloc (.cells cs t)) w.heap.size t cs := heap_alloc_new w _
theorem Blk.alloc (h : Blk w g t cs) (o : Obj) : Blk (w.alloc o) g t cs := (Below.heap_alloc w o g h.lt).trans h
theorem Blk.set_ (h : Blk w g t cs) (i : Nat) (u : Value) : Blk (w.setCell ⟨g, i, none⟩ u) g t (cs.setIfInBounds i u) := by
  unfold Blk at h ⊢
  simp [World.setCell, Array.getElem?_modify, h]
theorem Blk.other (h : Blk w g t cs) {p : Addr} (hp : g ≠ p.block) (u : Value) : Blk (w.setCell p u) g t cs := (Below.heap_setCell w p u g hp).trans h
theorem Blk.below {B : Nat} (h : Blk w g t cs) (hb : Below B w w') (hg : g < B) : Blk w' g t cs := (hb.block g hg).trans h
theorem Blk.drewN (h : Blk w g t cs) (n : Nat) : Blk (w.drewN n) g t cs := h
theorem Blk.drew (h : Blk w g t cs) : Blk w.drew g t cs := h
theorem Blk.store4 {x0 x1 x2 x3 : Value} (h : Blk w g t #[x0, x1, x2, x3]) (u0 u1 u2 u3 : Value) : Blk ((((w.setCell ⟨g, 0, none⟩ u0).setCell ⟨g, 1, none⟩ u1).setCell ⟨g, 2, none⟩ u2).setCell ⟨g, 3, none⟩ u3) g t #[u0, u1, u2, u3] := by
  simpa using (((h.set_ 0 u0).set_ 1 u1).set_ 2 u2).set_ 3 u3
theorem Blk.new_ (w : World) (t : TypeId) (cs : Array Value) (n : Nat) (hn : w.heap.size = n) : Blk (w.alloc (.cells cs t)) n t cs := by subst hn; exact heap_alloc_new w _
end

/-- 2^64. -/
def Q : Nat := 18446744073709551616
theorem Q_two : 2 ≤ Q := by unfold Q; omega
/-- The words of a list of digits. -/
def u64s (l : List Nat) : List Value := l.map fun (d : Nat) => Value.int .u64 (d : Int)
/-- The words of a number's size. -/
def dig (z : Int) : List Nat := digs Q z.natAbs
/-- How many they are. -/
def wl (z : Int) : Nat := (dig z).length
theorem dig_zero : dig 0 = [] := digs_zero Q
theorem wl_zero (z : Int) : wl z = 0 ↔ z = 0 := by
  unfold wl dig
  rw [List.length_eq_zero_iff, digs_eq_nil Q_two]; omega
theorem dig_neg (z : Int) : dig (-z) = dig z := by unfold dig; rw [Int.natAbs_neg]
theorem wl_neg (z : Int) : wl (-z) = wl z := by unfold wl; rw [dig_neg]
/-- No word is among the values. -/
def NoInt (cs : Array Value) : Prop := ∀ (i : Nat) (k : IntKind) (n : Int), cs[i]? ≠ some (.int k n)
theorem Row.ne_ {w : World} {A : Option Addr} {l : List Nat} (h : Row w A (u64s l)) {g : Nat} {t : TypeId} {cs : Array Value} (hB : Blk w g t cs) (hn : NoInt cs) :
    l = [] ∨ ∃ b o, A = some ⟨b, o, none⟩ ∧ b ≠ g ∧ ∀ i v, (u64s l)[i]? = some v → w.cell? ⟨b, o + i, none⟩ = some v := by
  rcases h with h | ⟨b, o, e, hc⟩
  · exact .inl (by simpa [u64s] using h)
  · cases l with
    | nil => exact .inl rfl
    | cons d l =>
      refine .inr ⟨b, o, e, ?_, hc⟩
      rintro rfl
      have h0 := hc 0 _ rfl
      rw [Nat.add_zero, hB.cell o] at h0
      exact hn _ _ _ h0
/-- What lies in other blocks stays. -/
theorem Row.far {w w' : World} {A : Option Addr} {l : List Nat} (h : Row w A (u64s l)) {g : Nat} {t : TypeId} {cs : Array Value} (hB : Blk w g t cs) (hn : NoInt cs)
    (hk : ∀ b o, b ≠ g → b < w.heap.size → w'.cell? ⟨b, o, none⟩ = w.cell? ⟨b, o, none⟩) : Row w' A (u64s l) := by
  rcases h.ne_ hB hn with rfl | ⟨b, o, e, hne, hc⟩
  · exact .inl rfl
  · exact .inr ⟨b, o, e, fun i v hi => (hk b (o + i) hne (block_lt (hc i v hi))).trans (hc i v hi)⟩
theorem cell_set {w : World} {b o g i : Nat} (h : b ≠ g) (u : Value) : (w.setCell ⟨g, i, none⟩ u).cell? ⟨b, o, none⟩ = w.cell? ⟨b, o, none⟩ :=
  World.cell?_setCell_other w ⟨g, i, none⟩ ⟨b, o, none⟩ u (fun e => h (by injection e with e1; exact e1.symm))
theorem noInt4 (a a' : Bool) (A A' : Option Addr) (n c n' c' : Nat) : NoInt #[.bool a, .slice A n c, .bool a', .slice A' n' c'] := by
  intro i k m h
  match i with
  | 0 => simp at h
  | 1 => simp at h
  | 2 => simp at h
  | 3 => simp at h
  | i + 4 => simp at h

/-- The slice of n words, with room for c, is the size of the whole number z. -/
def Wh (w : World) (A : Option Addr) (n c : Nat) (z : Int) : Prop := n = wl z ∧ n ≤ c ∧ Row w A (u64s (dig z))
theorem Wh.below {w w' : World} {A : Option Addr} {n c : Nat} {z : Int} (h : Wh w A n c z) (hb : Below w.heap.size w w') : Wh w' A n c z := ⟨h.1, h.2.1, h.2.2.below hb⟩
theorem Wh.neg {w : World} {A : Option Addr} {n c : Nat} {z : Int} (h : Wh w A n c z) : Wh w A n c (-z) := ⟨by rw [wl_neg]; exact h.1, h.2.1, by rw [dig_neg]; exact h.2.2⟩
theorem Wh.zero (w : World) (A : Option Addr) (c : Nat) : Wh w A 0 c 0 := ⟨((wl_zero 0).2 rfl).symm, Nat.zero_le _, by rw [dig_zero]; exact .inl rfl⟩
theorem Wh.far {w w' : World} {A : Option Addr} {n c : Nat} {z : Int} (h : Wh w A n c z) {g : Nat} {t : TypeId} {cs : Array Value} (hB : Blk w g t cs) (hn : NoInt cs)
    (hk : ∀ b o, b ≠ g → b < w.heap.size → w'.cell? ⟨b, o, none⟩ = w.cell? ⟨b, o, none⟩) : Wh w' A n c z := ⟨h.1, h.2.1, h.2.2.far hB hn hk⟩
theorem Wh.store4 {w : World} {A : Option Addr} {n c : Nat} {z : Int} (h : Wh w A n c z) {g : Nat} {t : TypeId} {a a' : Bool} {A' A'' : Option Addr} {n' c' n'' c'' : Nat} (hB : Blk w g t #[.bool a, .slice A' n' c', .bool a', .slice A'' n'' c'']) (u v x y : Value) :
    Wh ((((w.setCell ⟨g, 0, none⟩ u).setCell ⟨g, 1, none⟩ v).setCell ⟨g, 2, none⟩ x).setCell ⟨g, 3, none⟩ y) A n c z :=
  h.far hB (noInt4 _ _ _ _ _ _ _ _) fun b o hne _ => by rw [cell_set hne, cell_set hne, cell_set hne, cell_set hne]
/-- The two slices are the m and the e of the dyadic number d. -/
def Dr (w : World) (A : Option Addr) (n c : Nat) (A' : Option Addr) (n' c' : Nat) (d : Dyadic) : Prop := Wh w A n c (mant d) ∧ Wh w A' n' c' (expo d)
theorem Dr.below {w w' : World} {A : Option Addr} {n c : Nat} {A' : Option Addr} {n' c' : Nat} {d : Dyadic} (h : Dr w A n c A' n' c' d) (hb : Below w.heap.size w w') : Dr w' A n c A' n' c' d := ⟨h.1.below hb, h.2.below hb⟩
/-- Only block g has changed. -/
def Only (g : Nat) (w w' : World) : Prop := w.grownBy w' (some g)
theorem Only.refl (g : Nat) (w : World) : Only g w w := World.grownBy.refl w _
theorem Only.set_ {g : Nat} {w w' : World} (h : Only g w w') (i : Nat) (u : Value) : Only g w (w'.setCell ⟨g, i, none⟩ u) :=
  ⟨h.os, h.tape, h.output, by simpa [World.setCell] using h.size, fun k hk hne => (Below.heap_setCell w' _ u k (fun e => hne (by rw [e]))).trans (h.block k hk hne)⟩
theorem Only.drew {g : Nat} {w w' : World} (h : Only g w w') : Only g w w'.drew := ⟨h.os, h.tape, h.output, h.size, h.block⟩
theorem Only.drewN {g : Nat} {w w' : World} (h : Only g w w') (n : Nat) : Only g w (w'.drewN n) := ⟨h.os, h.tape, h.output, h.size, h.block⟩
theorem Only.trans {g : Nat} {a b c : World} (h : Only g a b) (k : Only g b c) : Only g a c :=
  ⟨k.os.trans h.os, k.tape.trans h.tape, k.output.trans h.output, Nat.le_trans h.size k.size, fun i hi hne => (k.block i (Nat.lt_of_lt_of_le hi h.size) hne).trans (h.block i hi hne)⟩
theorem Only.cell {g : Nat} {w w' : World} (h : Only g w w') {b o : Nat} {v : Value} (hb : b ≠ g) (hc : w.cell? ⟨b, o, none⟩ = some v) : w'.cell? ⟨b, o, none⟩ = some v :=
  (World.cell?_of_block (a := ⟨b, o, none⟩) (h.block b (block_lt hc) (fun e => hb (by injection e)))).trans hc
theorem Only.row {g : Nat} {w w' : World} (h : Only g w w') {A : Option Addr} {xs : List Value} (hA : ∀ b o, A = some ⟨b, o, none⟩ → b ≠ g) (hr : Row w A xs) : Row w' A xs := by
  rcases hr with rfl | ⟨b, o, e, hc⟩
  · exact .inl rfl
  · exact .inr ⟨b, o, e, fun i v hi => h.cell (hA b o e) (hc i v hi)⟩
theorem Only.blk {g : Nat} {w w' : World} (h : Only g w w') {b : Nat} {t : TypeId} {cs : Array Value} (hb : b ≠ g) (hB : Blk w b t cs) : Blk w' b t cs :=
  (h.block b hB.lt (fun e => hb (by injection e))).trans hB
theorem Only.below {g : Nat} {w0 w w' : World} (h : Only g w w') {B : Nat} (hb : Below B w0 w) (hB : B ≤ w.heap.size) (hg : B ≤ g) : Below B w0 w' :=
  hb.grown h hB (fun k hk => by injection hk with hk; omega)
theorem below_nx {w W w' : World} (h : Below w.heap.size w W) (hb : Below W.heap.size W w') : Below w.heap.size w w' := h.trans (hb.mono h.size)
theorem below_al {w W : World} (h : Below w.heap.size w W) {o : Obj} : Below w.heap.size w (W.alloc o) := h.alloc h.size o
theorem below_one {W : World} {o : Obj} : Below W.heap.size W (W.alloc o) := (Below.refl _ _).alloc (Nat.le_refl _) o
theorem ownsRow_below {Z : Nat} {w w' : World} {e : TypeId} {n k : Nat} {v : Value} {xs : List Value} (h : w.ownsRow Z e k v n xs) (hb : Below w.heap.size w w') : w'.ownsRow Z e k v n xs :=
  h.kept (row := none) ⟨hb.os, hb.tape, hb.output, hb.size, fun k hk _ => hb.block k hk⟩ (by cases v.ownBlock <;> simp)

end Go.Proofs.Ytcdhpoikppfjkaa
/-
The numbers that the words of binary64 stand for, and how they are ordered. Conditions: none.
-/
namespace Go.Proofs.Ytcdhpoikppfjkaa.Fl
open Ieee

/-- A word's lower 63 bits. -/
def rung (b : Nat) : Nat := b % 9223372036854775808
/-- A word's sign. -/
def sg (b : Nat) : Bool := b / 9223372036854775808 % 2 == 1
/-- The rung of infinity. -/
def INF : Nat := 9218868437227405312
/-- How great a rung is, in units of 2^-1074. -/
def mag (r : Nat) : Nat := if r < 4503599627370496 then r else (4503599627370496 + r % 4503599627370496) * 2 ^ (r / 4503599627370496 - 1)
/-- A word's place among all. -/
def key (b : Nat) : Int := if sg b then -(rung b : Int) else (rung b : Int)
def nan (b : Nat) : Bool := decide (INF < rung b)
theorem read_eq (b : Nat) : double.read b =
    if rung b < 4503599627370496 then .number (sg b) (rung b) (-1074)
    else if rung b < INF then .number (sg b) (4503599627370496 + rung b % 4503599627370496) (-1074 + (rung b / 4503599627370496 - 1 : Nat))
    else if rung b = INF then .infinity (sg b) else .nan (sg b) (rung b - INF) := rfl

/-- A finite word stands for a number whose digits and place make its value. -/
theorem read_fin {b : Nat} (h : rung b < INF) : ∃ m : Nat, ∃ u : Nat, double.read b = .number (sg b) m (-1074 + (u : Int)) ∧ m * 2 ^ u = mag (rung b) := by
  rw [read_eq]
  unfold mag
  by_cases h1 : rung b < 4503599627370496
  · rw [if_pos h1, if_pos h1]; exact ⟨rung b, 0, rfl, by simp⟩
  · rw [if_neg h1, if_pos h, if_neg h1]; exact ⟨_, _, rfl, rfl⟩
theorem read_inf {b : Nat} (h : rung b = INF) : double.read b = .infinity (sg b) := by
  rw [read_eq, h]; rfl
theorem read_nan {b : Nat} (h : INF < rung b) : double.read b = .nan (sg b) (rung b - INF) := by
  have : INF = 9218868437227405312 := rfl
  rw [read_eq, if_neg (by omega), if_neg (by omega), if_neg (by omega)]

/-! The comparisons of two words, as the walk spells them. -/
end Go.Proofs.Ytcdhpoikppfjkaa.Fl
/-
Rounding to the nearest, ties to even, as a plain function on natural numbers; scaling by a power of 2. Conditions: none.
-/
namespace Go.Proofs.Ytcdhpoikppfjkaa.Fl

theorem INF_val : INF = 9218868437227405312 := rfl
/-- n / 2^d to the nearest whole number, between two the even one. -/
def rne (n d : Nat) : Nat := n / 2 ^ d + (if 2 ^ d < 2 * (n % 2 ^ d) ∨ (2 ^ d = 2 * (n % 2 ^ d) ∧ n / 2 ^ d % 2 = 1) then 1 else 0)
/-- The rung that is nearest to N / 2^d units of 2^-1074, as if there were no greatest one. -/
def rnd (N d : Nat) : Nat := (N.log2 - (d + 52)) * 4503599627370496 + rne N (d + (N.log2 - (d + 52)))
def cap (r : Nat) : Nat := min r INF
/-- The rung that is nearest to M * 2^k units of 2^-1074. -/
def scl (M : Nat) (k : Int) : Nat := cap (if 0 ≤ k then rnd (M * 2 ^ k.toNat) 0 else rnd M (-k).toNat)
/-- The bits of a sign and a rung. -/
def wd (s : Bool) (r : Nat) : Nat := if s then 9223372036854775808 + r else r

theorem rne_zero (d : Nat) : rne 0 d = 0 := by
  unfold rne
  have : 0 < 2 ^ d := Nat.two_pow_pos d
  simp
theorem rne_d0 (n : Nat) : rne n 0 = n := by unfold rne; simp [Nat.mod_one]
theorem rne_shift (n d j : Nat) : rne (n * 2 ^ j) (d + j) = rne n d := by
  have hj : 0 < 2 ^ j := Nat.two_pow_pos j
  have e1 : n * 2 ^ j / 2 ^ (d + j) = n / 2 ^ d := by rw [Nat.pow_add]; exact Nat.mul_div_mul_right _ _ hj
  have e2 : n * 2 ^ j % 2 ^ (d + j) = n % 2 ^ d * 2 ^ j := by rw [Nat.pow_add]; exact Nat.mul_mod_mul_right _ _ _
  unfold rne
  rw [e1, e2, Nat.pow_add]
  have e3 : 2 * (n % 2 ^ d * 2 ^ j) = 2 * (n % 2 ^ d) * 2 ^ j := by rw [Nat.mul_assoc]
  rw [e3]
  have a : (2 ^ d * 2 ^ j < 2 * (n % 2 ^ d) * 2 ^ j) ↔ (2 ^ d < 2 * (n % 2 ^ d)) := Nat.mul_lt_mul_right hj
  have b : (2 ^ d * 2 ^ j = 2 * (n % 2 ^ d) * 2 ^ j) ↔ (2 ^ d = 2 * (n % 2 ^ d)) := ⟨fun h => Nat.eq_of_mul_eq_mul_right hj h, fun h => congrArg (· * 2 ^ j) h⟩
  simp only [a, b]
theorem rne_mul (n j : Nat) : rne (n * 2 ^ j) j = n := by
  have := rne_shift n 0 j
  rw [Nat.zero_add] at this
  rw [this, rne_d0]
theorem log2_mul (n j : Nat) (h : n ≠ 0) : (n * 2 ^ j).log2 = n.log2 + j := by
  have hp : 0 < 2 ^ j := Nat.two_pow_pos j
  have hn : n * 2 ^ j ≠ 0 := Nat.mul_ne_zero h (by omega)
  refine (Nat.log2_eq_iff hn).2 ⟨?_, ?_⟩
  · rw [Nat.pow_add]; exact Nat.mul_le_mul_right _ (Nat.log2_self_le h)
  · rw [show n.log2 + j + 1 = n.log2 + 1 + j by omega, Nat.pow_add]; exact Nat.mul_lt_mul_of_pos_right Nat.lt_log2_self hp
theorem rnd_zero (d : Nat) : rnd 0 d = 0 := by unfold rnd; rw [rne_zero]; simp
theorem rnd_shift (n d j : Nat) : rnd (n * 2 ^ j) (d + j) = rnd n d := by
  by_cases h : n = 0
  · subst h; rw [Nat.zero_mul, rnd_zero, rnd_zero]
  · unfold rnd
    rw [log2_mul n j h]
    have e : n.log2 + j - (d + j + 52) = n.log2 - (d + 52) := by omega
    rw [e]
    have e2 : d + j + (n.log2 - (d + 52)) = d + (n.log2 - (d + 52)) + j := by omega
    rw [e2, rne_shift]
theorem scl_zero (k : Int) : scl 0 k = 0 := by unfold scl; simp only [Nat.zero_mul, rnd_zero]; split <;> rfl
theorem scl_shift (m u : Nat) (k : Int) : scl (m * 2 ^ u) k = scl m (u + k) := by
  unfold scl
  by_cases h1 : 0 ≤ k
  · rw [if_pos h1, if_pos (by omega), Nat.mul_assoc, ← Nat.pow_add]
    congr 4; omega
  · rw [if_neg h1]
    by_cases h2 : 0 ≤ (u : Int) + k
    · rw [if_pos h2]
      have e := rnd_shift (m * 2 ^ ((u : Int) + k).toNat) 0 (-k).toNat
      rw [Nat.mul_assoc, ← Nat.pow_add] at e
      rw [← e]
      congr 4 <;> omega
    · rw [if_neg h2]
      have e := rnd_shift m (-((u : Int) + k)).toNat u
      rw [← e]
      congr 2; omega
/-- What is rounded in the place q of a rung whose digits are m1 / 2^i. -/
theorem scl_place (m1 i q : Nat) (h1 : m1 / 2 ^ i < 9007199254740992) (h2 : 4503599627370496 ≤ m1 / 2 ^ i ∨ q = 0) : scl m1 ((q : Int) - i) = cap (q * 4503599627370496 + rne m1 i) := by
  by_cases h0 : m1 = 0
  · subst h0
    have : q = 0 := by rcases h2 with h2 | h2; · simp at h2
                       · exact h2
    subst this
    rw [scl_zero, rne_zero]; rfl
  have hb : m1.log2 < 53 + i := by
    refine (Nat.log2_lt h0).2 ?_
    rw [Nat.pow_add]
    have hp : 0 < 2 ^ i := Nat.two_pow_pos i
    exact (Nat.div_lt_iff_lt_mul hp).1 (by simpa using h1)
  have e : scl m1 ((q : Int) - i) = cap (rnd (m1 * 2 ^ q) i) := by
    have := scl_shift m1 q (-(i : Int))
    rw [show (q : Int) + -(i : Int) = q - i by omega] at this
    rw [← this]
    unfold scl
    by_cases hi : i = 0
    · subst hi; simp
    · rw [if_neg (by omega)]; congr 2; omega
  rw [e]
  refine congrArg cap ?_
  unfold rnd
  rw [log2_mul _ _ h0]
  have ht : m1.log2 + q - (i + 52) = q := by
    rcases h2 with h2 | h2
    · have hlo : 52 + i ≤ m1.log2 := by
        refine (Nat.le_log2 h0).2 ?_
        rw [Nat.pow_add]
        have hp : 0 < 2 ^ i := Nat.two_pow_pos i
        exact (Nat.le_div_iff_mul_le hp).1 (by simpa using h2)
      omega
    · omega
  rw [ht, rne_shift]
theorem scl_exact (m q : Nat) (h1 : m < 9007199254740992) (h2 : 4503599627370496 ≤ m ∨ q = 0) : scl m q = cap (q * 4503599627370496 + m) := by
  have := scl_place m 0 q (by simpa using h1) (by simpa using h2)
  rw [rne_d0] at this
  simpa using this
theorem rne_small (n d : Nat) (h : 2 * n < 2 ^ d) : rne n d = 0 := by
  unfold rne
  have hlt : n < 2 ^ d := by omega
  rw [Nat.div_eq_of_lt hlt, Nat.mod_eq_of_lt hlt, if_neg (by omega)]
/-! ### A word's parts. -/
/-- The digits and the place of what a word stands for, as they are kept. -/
def pm (b : Nat) : Nat := if rung b < 4503599627370496 then rung b else 4503599627370496 + rung b % 4503599627370496
def pe (b : Nat) : Nat := if rung b < 4503599627370496 then 0 else rung b / 4503599627370496 - 1
theorem mag_parts (b : Nat) : mag (rung b) = pm b * 2 ^ pe b := by
  unfold mag pm pe; split <;> simp
theorem pm_lt (b : Nat) : pm b < 9007199254740992 := by unfold pm; split <;> omega
theorem pm_pe (b : Nat) : 4503599627370496 ≤ pm b ∨ pe b = 0 := by unfold pm pe; split <;> omega
theorem rung_parts (b : Nat) : rung b = pe b * 4503599627370496 + pm b := by unfold pm pe; split <;> omega
theorem wd_parts {b : Nat} (h : b < 18446744073709551616) : wd (sg b) (rung b) = b := by
  unfold wd sg rung
  by_cases h1 : b / 9223372036854775808 % 2 = 1
  · simp [h1]; omega
  · simp [h1]; omega
theorem scale_parts (b : Nat) (k : Int) : scl (mag (rung b)) k = scl (pm b) (pe b + k) := by rw [mag_parts, scl_shift]
end Go.Proofs.Ytcdhpoikppfjkaa.Fl
/-
What the functions on one float come to that use no memory: Same, Parts, Len64, digits, cut, join, Up, Down. Conditions: the words are below 2^64.
-/
set_option linter.unusedVariables false
namespace Go.Proofs.Ytcdhpoikppfjkaa
open Go.RowKit

theorem run_bits (b : Nat) (w : World) : (callFunc 41 #[.float .f64 b]).run Try.prog w = .ok (.value (.int .u64 (b : Int))) w := by kernel_rfl
attribute [go_sem] run_bits
theorem ret_bool {a b : Bool} (h : a = b) : Ending.returned (.bool a) = .returned (.bool b) := by rw [h]
/-- The two are the same number: by their bits, or both no number. -/
def sameB (a b : Nat) : Bool := decide (a = b) || Fl.nan a && Fl.nan b

/-- The kind of a word: 0 finite, 1 infinite, 2 no number. -/
def kindOf (b : Nat) : Int := if Fl.rung b < Fl.INF then 0 else if Fl.rung b = Fl.INF then 1 else 2
def partM (b : Nat) : Int := if Fl.rung b < Fl.INF then (Fl.pm b : Int) else 0
def partE (b : Nat) : Int := if Fl.rung b < Fl.INF then (Fl.pe b : Int) - 1074 else 0

theorem results_tmp4 {fn : Func} {t u v x : Tmp} (h : fn.results = #[.tmp t, .tmp u, .tmp v, .tmp x]) (tmps : Array Value) (P : Program) (w : World) :
    (results fn tmps).run P w = .ok (.tuple #[tmps.getD t undef, tmps.getD u undef, tmps.getD v undef, tmps.getD x undef]) w := by simp [results, h]
theorem ret_parts {s s' : Bool} {m m' e e' k k' : Int} (h1 : s = s') (h2 : m = m') (h3 : e = e') (h4 : k = k') :
    Ending.returned (.tuple #[.bool s, .int .u64 m, .int .i64 e, .int .i64 k]) = .returned (.tuple #[.bool s', .int .u64 m', .int .i64 e', .int .i64 k']) := by rw [h1, h2, h3, h4]
theorem sg_walk {b : Nat} (hb : b < 18446744073709551616) : ((b : Int) / 9223372036854775808 == 1) = Fl.sg b := by
  unfold Fl.sg
  rw [Bool.eq_iff_iff, beq_iff_eq, beq_iff_eq]; omega

theorem rung_def (b : Nat) : Fl.rung b = b % 9223372036854775808 := rfl
theorem pm_def (b : Nat) : Fl.pm b = if Fl.rung b < 4503599627370496 then Fl.rung b else 4503599627370496 + Fl.rung b % 4503599627370496 := rfl
theorem pe_def (b : Nat) : Fl.pe b = if Fl.rung b < 4503599627370496 then 0 else Fl.rung b / 4503599627370496 - 1 := rfl

theorem parts_any (b : Nat) (w : World) (hb : b < 18446744073709551616) :
    Calls Try.prog 40 #[.float .f64 b] w fun e w' => e = .returned (.tuple #[.bool (Fl.sg b), .int .u64 (partM b), .int .i64 (partE b), .int .i64 (kindOf b)]) ∧ w = w' := by
  go_enter Try.func40, Try.ntmps40
  go_wp2
  all_goals
    refine bodyPost_ret (results_tmp4 rfl _ _ _) rfl ?_
    have h1 := rung_def b
    have h2 := Fl.INF_val
    have h3 := pm_def b
    have h4 := pe_def b
    refine ⟨ret_parts (sg_walk hb) ?_ ?_ ?_, rfl⟩
    all_goals simp only [beq_iff_eq, beq_eq_false_iff_ne, ne_eq] at *
    · simp only [partM]
      split
      · rw [h3]; split <;> omega
      · first | rfl | omega
    · simp only [partE]; split
      · rw [h4]; split <;> omega
      · first | rfl | omega
    · simp only [kindOf]; (repeat' split) <;> first | rfl | omega
end Go.Proofs.Ytcdhpoikppfjkaa
