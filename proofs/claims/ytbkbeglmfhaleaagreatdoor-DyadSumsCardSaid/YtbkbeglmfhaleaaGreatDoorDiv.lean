/-
math/bits.Div64 where the high word is 0. Conditions: the divisor isn't 0.
-/
import Derived.Test.YtbkbeglmfhaleaaGreatDoorFmt
set_option linter.unusedVariables false
namespace Go.Proofs.YtbkbeglmfhaleaaGreatDoor
open Go.RowKit

set_option maxHeartbeats 1000000 in
set_option maxRecDepth 100000 in
theorem div_any (x : Nat) (w : World) (hx : x < 10000000000000000000) :
    Calls Tryz.prog 74 #[.int .u64 0, .int .u64 x, .int .u64 10000000000000000000] w fun e w' => e = .returned (.tuple #[.int .u64 0, .int .u64 x]) ∧ Below w.heap.size w w' := by
  have h1 : (x : Int) / 10000000000000000000 = 0 := Int.ediv_eq_zero_of_lt (by omega) (by omega)
  have h2 : (x : Int) % 10000000000000000000 = (x : Int) := Int.emod_eq_of_lt (by omega) (by omega)
  have H2 := Lib.hid h2
  clear h2
  go_enter Tryz.func74, Tryz.ntmps74
  go_wp2_with fail
  go_quiet (fail)
  rw [H2.out]
  clear h1 H2
  go_wp2_with fail
  go_ret2
  exact ⟨rfl, below_drewN (Below.refl _ _) _⟩
end Go.Proofs.YtbkbeglmfhaleaaGreatDoor
