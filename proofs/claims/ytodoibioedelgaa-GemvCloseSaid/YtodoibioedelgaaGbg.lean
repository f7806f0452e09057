/-
Whole numbers: add. Conditions: as each says.
-/
import Derived.Test.YtodoibioedelgaaGbe
import Derived.Test.YtodoibioedelgaaGbf
import Derived.Deep.RegionWith
import Derived.Shelf.Spec.BitsCarry
set_option linter.unusedVariables false
namespace Go.Proofs.Ytodoibioedelgaa
open Go.RowKit
attribute [local go_sem ↓] Go.wp_at_zero Go.wp_at_succ
attribute [local go_sem ↓] ib_or

theorem u64s_arr (M : List Nat) (i : Nat) (h : i < M.length) : (u64s M).toArray[i]? = some (.int .u64 (M[i] : Int)) := by
  rw [List.getElem?_toArray]; exact u64s_get M i h
theorem u64s_set (M : List Nat) (i v : Nat) : (u64s M).toArray.setIfInBounds i (.int .u64 (v : Int)) = (u64s (M.set i v)).toArray := by
  simp [u64s, List.map_set]

theorem or_word {d b s : Nat} (hs : s < 64) (hb : b < 2 ^ s) : orU (IntKind.u64.wrap ((d : Int) * 2 ^ s)) (b : Int) = ((d * 2 ^ s % Q + b : Nat) : Int) := by
  obtain ⟨r1, r2⟩ := shl_room (d := d) hs hb
  rw [win_cast2, ← Q_val]
  have hq := Q_val
  exact orU_nat s (by omega) (by omega) hb r2

/-- What add came to. -/
def Added (g n : Nat) (t : TypeId) (T : Nat) (w w' : World) : Prop := ∃ M, Digs Q M ∧ M.length = n ∧ ofd Q M = T ∧ Blk w' g t (u64s M).toArray ∧ Only g w w'
end Go.Proofs.Ytodoibioedelgaa
/-
Whole numbers: difference. Conditions: as each says.
-/
set_option linter.unusedVariables false
namespace Go.Proofs.Ytodoibioedelgaa
open Go.RowKit
attribute [local go_sem ↓] Go.wp_at_zero Go.wp_at_succ

theorem compl_word {x : Nat} (hx : x < Q) : bits .xor .u64 IntKind.u64.max (x : Int) = ((Q - 1 - x : Nat) : Int) := by
  have hq := Q_val
  show IntKind.u64.wrap ((BitVec.ofInt 64 18446744073709551615 ^^^ BitVec.ofInt 64 (x : Int)).toNat : Int) = _
  have e1 : BitVec.ofInt 64 18446744073709551615 = BitVec.allOnes 64 := by decide
  have e2 : (BitVec.ofInt 64 (x : Int)).toNat = x := by
    rw [BitVec.ofInt_natCast, BitVec.toNat_ofNat]; exact Nat.mod_eq_of_lt (by omega)
  rw [e1, BitVec.allOnes_xor, BitVec.toNat_not, e2, IntKind.wrap_u64]
  omega

/-- What difference came to. -/
def Differ (g : Nat) (z : Int) (w : World) (e : Ending) (w' : World) : Prop := ∃ A n c, e = .returned (.agg #[.bool (ng z), .slice A n c]) ∧ Wh w' A n c z ∧ Only g w w'
theorem Differ.mk_ {g : Nat} {z : Int} {w w' : World} {a : Bool} {A : Option Addr} {n c : Nat} (ha : ng z = a) (h : Wh w' A n c z) (hb : Only g w w') : Differ g z w (.returned (.agg #[.bool a, .slice A n c])) w' := by
  subst ha; exact ⟨A, n, c, rfl, h, hb⟩
theorem Only.alloc {g : Nat} {w w' : World} (h : Only g w w') (o : Obj) : Only g w (w'.alloc o) :=
  ⟨h.os, h.tape, h.output, Nat.le_trans h.size (by simp), fun i hi hne => (Below.heap_alloc w' o i (Nat.lt_of_lt_of_le hi h.size)).trans (h.block i hi hne)⟩
theorem Only.new_ {g : Nat} {w w' : World} (h : Only g w w') (i : Nat) (u : Value) (k : Nat) (hk : w.heap.size ≤ k) : Only g w (w'.setCell ⟨k, i, none⟩ u) :=
  ⟨h.os, h.tape, h.output, by simpa [World.setCell] using h.size, fun j hj hne => (Below.heap_setCell w' _ u j (by simp; omega)).trans (h.block j hj hne)⟩

theorem row_blk {w : World} {g : Nat} {t : TypeId} {M : List Nat} (h : Blk w g t (u64s M).toArray) : Row w (some ⟨g, 0, none⟩) (u64s M) :=
  .inr ⟨g, 0, rfl, fun i v hi => by rw [Nat.zero_add, h.cell i]; simpa using hi⟩
end Go.Proofs.Ytodoibioedelgaa
