/-
PackBlocks. Conditions: none.
-/
import Derived.Test.YtbjopdnfjjcpoaaZPlE
set_option linter.unusedVariables false
set_option linter.unusedSimpArgs false
namespace Go.Proofs.Ytbjopdnfjjcpoaa
open Go.RowKit Go.Sort
attribute [local go_sem ↓] Go.wp_at_zero Go.wp_at_succ

theorem blocks_ex (w : World) : Calls Try.prog 21 #[.int .i64 7, .int .i64 3, .slice none 0 0] w (BlkR [0, 3, 6, 7] 3 w) := by
  have h := blocks_ok 7 3 none 0 0 [] w (by omega) (by omega) (by omega) (by omega) (.inl rfl) rfl (by simp)
  have e : cuts 7 3 [] = [0, 3, 6, 7] := by decide
  rw [e] at h
  exact h
/-- The cells of a block. -/
theorem Row.pair {w : World} {A : Option Addr} {C : List Int} {m i : Nat} (h : Row w A (prs C m)) (hi : i < m) : ∃ b o, A = some ⟨b, o, none⟩ ∧ w.cell? ⟨b, o + i * 2, none⟩ = some (.int .i64 (C.getD i 0)) ∧ w.cell? ⟨b, o + i * 2 + 1, none⟩ = some (.int .i64 (C.getD (i + 1) 0 - C.getD i 0)) := by
  obtain ⟨h1, h2⟩ := prs_get C hi
  rcases h with h0 | ⟨b, o, e, hc⟩
  · rw [h0] at h1; simp at h1
  · exact ⟨b, o, e, hc _ _ h1, by rw [Nat.add_assoc]; exact hc _ _ h2⟩
theorem und_pair : Try.prog.underlying 53 = some (.array 2 3) := by kernel_rfl
theorem und_int : Try.prog.underlying 3 = some (.int .i64) := by kernel_rfl
theorem size_int (w : World) : (sizeOf 3).run Try.prog w = .ok 1 w := by kernel_rfl
theorem part_int0 (x y : Value) (w : World) : (part 3 #[x, y] 0).run Try.prog w = .ok x w := by kernel_rfl
theorem part_int1 (x y : Value) (w : World) : (part 3 #[x, y] 1).run Try.prog w = .ok y w := by kernel_rfl
theorem run_eq2' (d : Nat) (a b c e : Int) (w : World) : (Op.equalIn (d + 1 + 1) 53 (.agg #[.int .i64 a, .int .i64 b]) (.agg #[.int .i64 c, .int .i64 e])).run Try.prog w = .ok ((a == c) && (b == e)) w := by
  rw [Op.equalIn]
  simp only [Sem.run_bind, run_underlying und_pair, Result.andThen_ok, size_int]
  simp only [Std.Legacy.Range.forIn_eq_forIn_range', Std.Legacy.Range.size]
  simp [List.range', Sem.run_bind, part_int0, part_int1, run_equalIn_int w d 3 .i64 .i64 _ _ und_int]
  by_cases h1 : a = c
  · by_cases h2 : b = e <;> simp [h1, h2]
  · simp [h1]
theorem run_eq2 (a b c e : Int) (w : World) : (Op.equalIn 10000 53 (.agg #[.int .i64 a, .int .i64 b]) (.agg #[.int .i64 c, .int .i64 e])).run Try.prog w = .ok ((a == c) && (b == e)) w := run_eq2' 9998 a b c e w
attribute [local go_sem ↓] run_eq2
set_option maxRecDepth 100000 in
set_option maxHeartbeats 2000000 in
theorem awake12_any (w : World) : Calls Try.prog 6 #[] w fun e w' => e = .returned (.bool true) ∧ Below w.heap.size w w' := by
  go_enter Try.func6, Try.ntmps6
  go_wp2_with fail
  refine (blocks_ex w).mono ?_
  rintro e w1 ⟨A, c, rfl, hrow, hb⟩
  have HB := Lib.hid hb
  obtain ⟨b, o, rfl, h0, h1⟩ := hrow.pair (i := 0) (by omega)
  obtain ⟨b', o', e', h4, h5⟩ := hrow.pair (i := 2) (by omega)
  simp only [Option.some.injEq, Addr.mk.injEq] at e'
  obtain ⟨rfl, rfl, _⟩ := e'
  simp at h0 h1 h4 h5
  clear hrow hb
  go_wp2_with fail
  go_ret
  exact ⟨rfl, HB.out⟩
end Go.Proofs.Ytbjopdnfjjcpoaa
