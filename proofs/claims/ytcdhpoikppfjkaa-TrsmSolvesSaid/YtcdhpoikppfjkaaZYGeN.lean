/-
GemmTells: matrices in one list. Conditions: as each says.
-/
import Derived.Test.YtcdhpoikppfjkaaWaas
import Derived.Test.YtcdhpoikppfjkaaWaai
import Derived.Test.YtcdhpoikppfjkaaWaal
import Derived.Test.YtcdhpoikppfjkaaZYGrE
set_option linter.unusedVariables false
set_option linter.unusedSimpArgs false
set_option linter.unnecessarySimpa false
namespace Go.Proofs.Ytcdhpoikppfjkaa
open Go.RowKit
attribute [local go_sem ↓] Go.wp_at_zero Go.wp_at_succ

theorem own_near (g c cx : Nat) (l : List Nat) (n : Nat) (o r k L ox rx kx Lx : Int) (b : Bool) (W : World) (hO : Own W g l) (hl : l.length = n) (hn : n < 1048576) (ho : I64 o) (hr : I64 r) (hk : I64 k) (hL : I64 L) (hox : I64 ox) (hrx : I64 rx) (hkx : I64 kx) (hLx : I64 Lx)
    (h : (bothB n o r k L n ox rx kx Lx && (decide (o ≤ lastI ox rx kx Lx) && decide (ox ≤ lastI o r k L))) = b) :
    Calls Try.prog 30 #[mat (some ⟨g, 0, none⟩) n c o r k L, mat (some ⟨g, 0, none⟩) n cx ox rx kx Lx] W fun e w' => e = .returned (.bool b) ∧ Below W.heap.size W w' := by
  have := meet_own g g c cx l l o r k L ox rx kx Lx W hO hO (by omega) ho hr hk hL (by omega) hox hrx hkx hLx
  rw [show decide (g = g) = true from decide_eq_true rfl, Bool.and_true, hl, h] at this
  exact this
end Go.Proofs.Ytcdhpoikppfjkaa
