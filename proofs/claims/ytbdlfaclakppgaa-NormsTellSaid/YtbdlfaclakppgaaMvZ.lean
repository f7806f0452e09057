/-
At: a number of a table. Conditions: as each says.
-/
import Derived.Test.YtbdlfaclakppgaaMvK
set_option linter.unusedVariables false
namespace Go.Proofs.Ytbdlfaclakppgaa
open Go.RowKit
attribute [local go_sem ↓] Go.wp_at_zero Go.wp_at_succ


theorem rat_any (r k : Int) (g n c : Nat) (T : List Nat) (i j p : Nat) (w : World) (hB : Row w (some ⟨g, 0, none⟩) (f64s T)) (hT : T.length = n) (hp : p < n) (hn : n < 9223372036854775808) (he : (i : Int) * k + (j : Int) = (p : Int)) (hm : I64 ((i : Int) * k)) :
    Calls Try.prog 44 #[tbl r k g n c, .int .i64 i, .int .i64 j] w fun e w' => e = .returned (.float .f64 (T.getD p 0)) ∧ Below w.heap.size w w' := by
  unfold I64 at hm
  have hpT : p < T.length := by omega
  obtain ⟨b, o, hbo, hlt, hc⟩ := hB.at_ (f64s_get T p hpT)
  injection hbo with hbo
  injection hbo with e1 e2 _
  subst e1 e2
  rw [Nat.zero_add] at hc
  have hv : T.getD p 0 = T[p] := getD_of_lt hpT
  rw [hv]
  obtain ⟨v, hv2⟩ : ∃ v, T[p] = v := ⟨_, rfl⟩
  rw [hv2] at hc
  rw [hv2]
  have hc2 := cell_below hc (below_one (W := w) (o := .cells #[.int .i64 r, .int .i64 k, .slice (some ⟨g, 0, none⟩) n c] 32))
  have w1 : IntKind.i64.wrap ((i : Int) * k) = (i : Int) * k := wrapi (by omega) (by omega)
  have w2 : IntKind.i64.wrap (p : Int) = (p : Int) := wrapi (by omega) (by omega)
  have hpn : (p : Int) < (n : Int) := by omega
  have hp0 : (0 : Int) ≤ (p : Int) := by omega
  clear hv hv2 hpT hc hB hT hlt
  unfold tbl
  go_enter Try.func44, Try.ntmps44
  go_wp2_with fail
  go_ret
  exact ⟨rfl, (Below.refl w.heap.size w).alloc (Nat.le_refl _) _⟩
end Go.Proofs.Ytbdlfaclakppgaa
