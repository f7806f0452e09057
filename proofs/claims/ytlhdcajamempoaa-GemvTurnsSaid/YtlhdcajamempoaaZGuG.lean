/-
GemvTurns, put together. Conditions: as it says.
-/
import Derived.Test.YtlhdcajamempoaaZGuF
set_option linter.unusedVariables false
set_option linter.unusedSimpArgs false
set_option linter.unnecessarySimpa false
namespace Go.Proofs.Ytlhdcajamempoaa
open Go.RowKit
theorem gemvTurns_true (A1 : Option Addr) (n1 d1 : Nat) (P : List Int) (A2 : Option Addr) (n2 d2 : Nat) (V : List Int) (p q : Nat) (w : World) (hR1 : Row w A1 (i8s P)) (hR2 : Row w A2 (i8s V)) (hP : P.length = n1) (hV : V.length = n2) (hIP : ∀ z ∈ P, I8 z) (hIV : ∀ z ∈ V, I8 z) (hp : p < 256) (hq : q < 256) :
    Calls Try.prog 3 #[.slice A1 n1 d1, .slice A2 n2 d2, .int .u8 (p : Int), .int .u8 (q : Int)] w fun e w' => e = .returned (.bool true) ∧ Below w.heap.size w w' := by
  by_cases h : (1 + p % 8) * (1 + q % 8) ≤ n1 ∧ 1 + p % 8 ≤ n2
  · exact gemvTurns_long A1 n1 d1 P A2 n2 d2 V p q _ _ _ w hR1 hR2 hP hV hIP hIV hp hq rfl rfl rfl h.1 h.2
  · exact gemvTurns_short A1 n1 d1 A2 n2 d2 p q _ _ _ w hp hq rfl rfl rfl h
end Go.Proofs.Ytlhdcajamempoaa
