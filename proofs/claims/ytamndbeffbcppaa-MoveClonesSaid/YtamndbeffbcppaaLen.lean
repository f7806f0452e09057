/-
math/bits.Len64 comes to the number of binary digits. Conditions: the number is a uint64.
-/
import Derived.Test.YtamndbeffbcppaaRows
import Derived.WalkKit
import Derived.Lib.BitFns
namespace Go.Proofs.Ytamndbeffbcppaa
open Go.RowKit

theorem len8_get (i : Nat) (h : i < Lib.len8tab.size) : ((Lib.len8tab[i].toNat : Nat) : Int) = (Lib.bitLen i : Int) := by
  have hs := Lib.len8tab_size
  have e := Lib.len8_eq ⟨i, by omega⟩
  unfold Lib.len8 at e
  simp only [Int.toNat_natCast] at e
  rw [← e]
  simp [h]
theorem len8_le (i : Nat) (h : i < 256) : Lib.bitLen i ≤ 8 := Lib.bitLen_le8 ⟨i, h⟩
theorem wrap_len (i : Nat) (h : i < Lib.len8tab.size) : wrap64 ((Lib.len8tab[i].toNat : Nat) : Int) = (Lib.bitLen i : Int) := by
  have hs := Lib.len8tab_size
  rw [len8_get i h]
  have := len8_le i (by omega)
  exact IntWalk.wrap64_in _ ⟨by omega, by omega⟩
theorem len_c (c : Int) (i : Nat) (h : i < Lib.len8tab.size) (X : Nat) (hc : 0 ≤ c ∧ c ≤ 56) (hX : (Lib.bitLen X : Int) = c + (Lib.bitLen i : Int)) :
    wrap64 (c + wrap64 ((Lib.len8tab[i].toNat : Nat) : Int)) = (Lib.bitLen X : Int) := by
  have hs := Lib.len8tab_size
  have := len8_le i (by omega)
  rw [wrap_len i h, hX]
  exact IntWalk.wrap64_in _ ⟨by omega, by omega⟩
theorem len_0 (i : Nat) (h : i < Lib.len8tab.size) : wrap64 (wrap64 ((Lib.len8tab[i].toNat : Nat) : Int)) = (Lib.bitLen i : Int) := by
  have hs := Lib.len8tab_size
  have := len8_le i (by omega)
  rw [wrap_len i h]
  exact IntWalk.wrap64_in _ ⟨by omega, by omega⟩

end Go.Proofs.Ytamndbeffbcppaa
