/-
Arguments that are lists of ints, and bools, opened. Conditions: none.
-/
import Derived.Test.YtelpdbkkefpjhaaZKVwO
import Derived.Test.YtelpdbkkefpjhaaRows
import Derived.WalkKit
import Derived.Lib.BitFns
set_option linter.unusedVariables false
namespace Go.Proofs.Ytelpdbkkefpjhaa
open Go.RowKit Go.WideShapes Go.ChangeShapes Go.Deep

/-- The cells of a list of ints. -/
def i64s (l : List Int) : List Value := l.map fun (z : Int) => Value.int .i64 z
theorem i64s_get (l : List Int) (i : Nat) (h : i < l.length) : (i64s l)[i]? = some (.int .i64 l[i]) := by simp [i64s, h]
section
variable {H : Type} {enc : TypeId × Value → H} {P : Program} {w : World} {base : Nat} {spare : Nat → Bool} {held : Bool}
end
end Go.Proofs.Ytelpdbkkefpjhaa
/-
math/bits.Len64 comes to the number of binary digits. Conditions: the number is a uint64.
-/
namespace Go.Proofs.Ytelpdbkkefpjhaa
open Go.RowKit

theorem len8_get (i : Nat) (h : i < Lib.len8tab.size) : ((Lib.len8tab[i].toNat : Nat) : Int) = (Lib.bitLen i : Int) := by
  have hs := Lib.len8tab_size
  have e := Lib.len8_eq ⟨i, by omega⟩
  unfold Lib.len8 at e
  simp only [Int.toNat_natCast] at e
  rw [← e]
  simp [h]
theorem len8_le (i : Nat) (h : i < 256) : Lib.bitLen i ≤ 8 := Lib.bitLen_le8 ⟨i, h⟩
theorem wrap_len (i : Nat) (h : i < Lib.len8tab.size) : wrap64 ((Lib.len8tab[i].toNat : Nat) : Int) = (Lib.bitLen i : Int) := by
  have hs := Lib.len8tab_size
  rw [len8_get i h]
  have := len8_le i (by omega)
  exact IntWalk.wrap64_in _ ⟨by omega, by omega⟩
theorem len_c (c : Int) (i : Nat) (h : i < Lib.len8tab.size) (X : Nat) (hc : 0 ≤ c ∧ c ≤ 56) (hX : (Lib.bitLen X : Int) = c + (Lib.bitLen i : Int)) :
    wrap64 (c + wrap64 ((Lib.len8tab[i].toNat : Nat) : Int)) = (Lib.bitLen X : Int) := by
  have hs := Lib.len8tab_size
  have := len8_le i (by omega)
  rw [wrap_len i h, hX]
  exact IntWalk.wrap64_in _ ⟨by omega, by omega⟩
theorem len_0 (i : Nat) (h : i < Lib.len8tab.size) : wrap64 (wrap64 ((Lib.len8tab[i].toNat : Nat) : Int)) = (Lib.bitLen i : Int) := by
  have hs := Lib.len8tab_size
  have := len8_le i (by omega)
  rw [wrap_len i h]
  exact IntWalk.wrap64_in _ ⟨by omega, by omega⟩

set_option maxHeartbeats 4000000 in
set_option maxRecDepth 100000 in
theorem len64_any (x : Int) (w : World) (h0 : 0 ≤ x) (h1 : x ≤ 18446744073709551615) :
    Calls Try.prog 71 #[.int .u64 x] w fun e w' => e = .returned (.int .i64 (Lib.bitLen x.toNat)) ∧ w = w' := by
  have hs : ((Lib.len8tab.size : Nat) : Int) = 256 := by rw [Lib.len8tab_size]; rfl
  go_enter Try.func71, Try.ntmps71
  go_wp2
  all_goals
    go_ret
    refine ⟨congrArg (fun z => Ending.returned (.int .i64 z)) ?_, rfl⟩
    have hz := Lib.len8tab_size
    first
      | (refine len_c 56 (x / 4294967296 / 65536 / 256).toNat (by omega) x.toNat (by omega) ?_
         have s := Lib.bitLen_shift56 x.toNat (by omega) (by omega)
         rw [show (x / 4294967296 / 65536 / 256).toNat = x.toNat / 72057594037927936 by omega]
         omega)
      | (refine len_c 48 (x / 4294967296 / 65536).toNat (by omega) x.toNat (by omega) ?_
         have s := Lib.bitLen_shift48 x.toNat (by omega) (by omega)
         rw [show (x / 4294967296 / 65536).toNat = x.toNat / 281474976710656 by omega]
         omega)
      | (refine len_c 40 (x / 4294967296 / 256).toNat (by omega) x.toNat (by omega) ?_
         have s := Lib.bitLen_shift40 x.toNat (by omega) (by omega)
         rw [show (x / 4294967296 / 256).toNat = x.toNat / 1099511627776 by omega]
         omega)
      | (refine len_c 32 (x / 4294967296).toNat (by omega) x.toNat (by omega) ?_
         have s := Lib.bitLen_shift32 x.toNat (by omega) (by omega)
         rw [show (x / 4294967296).toNat = x.toNat / 4294967296 by omega]
         omega)
      | (refine len_c 24 (x / 65536 / 256).toNat (by omega) x.toNat (by omega) ?_
         have s := Lib.bitLen_shift24 x.toNat (by omega) (by omega)
         rw [show (x / 65536 / 256).toNat = x.toNat / 16777216 by omega]
         omega)
      | (refine len_c 16 (x / 65536).toNat (by omega) x.toNat (by omega) ?_
         have s := Lib.bitLen_shift16 x.toNat (by omega) (by omega)
         rw [show (x / 65536).toNat = x.toNat / 65536 by omega]
         omega)
      | (refine len_c 8 (x / 256).toNat (by omega) x.toNat (by omega) ?_
         have s := Lib.bitLen_shift8 x.toNat (by omega) (by omega)
         rw [show (x / 256).toNat = x.toNat / 256 by omega]
         omega)
      | exact len_0 x.toNat (by omega)
end Go.Proofs.Ytelpdbkkefpjhaa
