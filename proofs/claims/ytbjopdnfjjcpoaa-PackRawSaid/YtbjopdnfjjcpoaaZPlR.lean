/-
PackRaw. Conditions: none.
-/
import Derived.Test.YtbjopdnfjjcpoaaZPlQ
set_option linter.unusedVariables false
namespace Go.Proofs.Ytbjopdnfjjcpoaa
open Go.RowKit

theorem packRaw_walk (r k : Int) (A : Option Addr) (c : Nat) (l : List Nat) (i j : Int) (Am : Option Addr) (cm : Nat) (lm : List Nat) (mo mr mk ml : Int) (w : World) (hA : Row w A (f64s l)) (hW : Wds l) (hr : I64 r) (hk : I64 k) (hj : I64 j) (hAm : Row w Am (f64s lm)) (hWm : Wds lm) (hmo : I64 mo) (hmr : I64 mr) (hmk : I64 mk) (hml : I64 ml) :
    Calls Try.prog 4 #[.int .i64 r, .int .i64 k, .slice A l.length c, .int .i64 i, .int .i64 j, mat Am lm.length cm mo mr mk ml] w fun e w' => e = .returned (.bool true) ∧ Below w.heap.size w w' := by
  by_cases h1 : greatB lm.length mr mk = true ∨ 1000 < l.length
  · exact packRaw_great r k A _ c i j Am _ cm mo mr mk ml w h1
  · have hG : greatB lm.length mr mk = false := by
      cases h : greatB lm.length mr mk
      · rfl
      · exact absurd (.inl h) h1
    have hn : l.length ≤ 1000 := by omega
    have hm : lm.length ≤ 1000 ∧ mr ≤ 20 ∧ mk ≤ 20 := by have h := hG; unfold greatB at h; simp at h; omega
    by_cases hE : unE (matB lm.length mo mr mk ml) (whB r k l.length) r k mr mk = 0
    · have h3 : matB lm.length mo mr mk ml = true ∧ whB r k l.length = true := by
        by_cases h : matB lm.length mo mr mk ml = true ∧ whB r k l.length = true
        · exact h
        · rw [unE, if_neg h] at hE; omega
      have h4 : ¬ (r < mr ∨ k < mk) := fun h => by rw [unE, if_pos h3, if_pos h] at hE; omega
      obtain ⟨o, R, C, L, rfl, rfl, rfl, rfl, hL1, hRL, hmr2⟩ := mat_nat h3.1
      exact packRaw_ok r k A _ c l i j Am _ cm lm o R C L w hA hW rfl hn hr hk hj hAm hWm rfl hm.1 hmo hml (by omega) (by omega) hL1 hRL hmr2 h3.2 (by omega)
    · exact packRaw_err r k A _ c l i j Am _ cm lm mo mr mk ml w hA hW rfl hn hk hj hAm hWm rfl hm.1 hmo hmr hmk hml hG hE
end Go.Proofs.Ytbjopdnfjjcpoaa
