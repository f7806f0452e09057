/-
GemvTurns: what its walk is told; where the lists are short. Conditions: as each says.
-/
import Derived.Test.YtlhdcajamempoaaZGuC
import Derived.Test.YtlhdcajamempoaaGd
import Derived.Test.YtlhdcajamempoaaZGrE
set_option linter.unusedVariables false
set_option linter.unusedSimpArgs false
set_option linter.unnecessarySimpa false
namespace Go.Proofs.Ytlhdcajamempoaa
open Go.RowKit
attribute [local go_sem ↓] Go.wp_at_zero Go.wp_at_succ

/-- The sizes, read off two bytes. -/
theorem gu_ints {p q r c N : Nat} (hp : p < 256) (hq : q < 256) (hr : 1 + p % 8 = r) (hc : 1 + q % 8 = c) (hN : r * c = N) : ∃ s t : Nat, Hid ((Int.tmod (p : Int) 8 = (s : Int) ∧ (1 : Int) + (s : Int) = (r : Int) ∧ Int.tmod (q : Int) 8 = (t : Int) ∧ (1 : Int) + (t : Int) = (c : Int) ∧ (r : Int) * (c : Int) = (N : Int)) ∧
    (wrap64 (s : Int) = (s : Int) ∧ IntKind.i64.wrap (s : Int) = (s : Int)) ∧ (wrap64 (t : Int) = (t : Int) ∧ IntKind.i64.wrap (t : Int) = (t : Int)) ∧ (wrap64 (r : Int) = (r : Int) ∧ IntKind.i64.wrap (r : Int) = (r : Int)) ∧ (wrap64 (c : Int) = (c : Int) ∧ IntKind.i64.wrap (c : Int) = (c : Int)) ∧ (wrap64 (p : Int) = (p : Int) ∧ IntKind.i64.wrap (p : Int) = (p : Int)) ∧ (wrap64 (q : Int) = (q : Int) ∧ IntKind.i64.wrap (q : Int) = (q : Int)) ∧ (wrap64 (N : Int) = (N : Int) ∧ IntKind.i64.wrap (N : Int) = (N : Int))) := by
  have hN2 : N ≤ 8 * 8 := by rw [← hN]; exact Nat.mul_le_mul (by omega) (by omega)
  refine ⟨p % 8, q % 8, Lib.hid ⟨⟨by rw [Int.tmod_eq_emod_of_nonneg (by omega)]; omega, by omega, by rw [Int.tmod_eq_emod_of_nonneg (by omega)]; omega, by omega, by rw [← hN]; simp⟩, wr2 (by omega), wr2 (by omega), wr2 (by omega), wr2 (by omega), wr2 (by omega), wr2 (by omega), wr2 (by omega)⟩⟩
theorem dense_nil {r k : Nat} {M : List Nat} (h : Dense [] r k M) (hr : 1 ≤ r) : M.length = r * k := h.1
/-- A matrix of noughts. -/
theorem gu_dense (r k N : Nat) (w : World) (h1 : 1 ≤ r) (h8 : r ≤ 8) (k8 : k ≤ 8) (hN : r * k = N) :
    Calls Try.prog 8 #[.int .i64 r, .int .i64 k, .slice none 0 0] w fun e w' => ∃ g M, e = .returned (.agg #[.slice (some ⟨g, 0, none⟩) N N, .int .i64 (0 : Int), .int .i64 (r : Int), .int .i64 (k : Int), .int .i64 (r : Int)]) ∧ M.length = N ∧ Own w' g M ∧ w.heap.size ≤ g ∧ Below w.heap.size w w' := by
  refine (show Calls Try.prog 8 #[.int .i64 r, .int .i64 k, .slice none 0 0] w _ from dense_blk none 0 [] r k w (by omega) (by omega) (Row.nil w none) (by simp) (by simp)).mono ?_
  rintro e w' ⟨g, M, rfl, hd, hB, hg, hb⟩
  have e1 : max 1 r = r := by omega
  rw [e1, hN]
  exact ⟨g, M, rfl, by rw [hd.1, hN], own_blk hB, hg, hb⟩
set_option maxHeartbeats 2000000 in
theorem gemvTurns_short (A1 : Option Addr) (n1 d1 : Nat) (A2 : Option Addr) (n2 d2 : Nat) (p q r c N : Nat) (w : World) (hp : p < 256) (hq : q < 256) (hr : 1 + p % 8 = r) (hc : 1 + q % 8 = c) (hN : r * c = N) (h : ¬ (N ≤ n1 ∧ r ≤ n2)) :
    Calls Try.prog 3 #[.slice A1 n1 d1, .slice A2 n2 d2, .int .u8 (p : Int), .int .u8 (q : Int)] w fun e w' => e = .returned (.bool true) ∧ Below w.heap.size w w' := by
  obtain ⟨s, t, HU⟩ := gu_ints hp hq hr hc hN
  obtain ⟨b1, hb1⟩ : ∃ b, decide (n1 < N) = b := ⟨_, rfl⟩
  obtain ⟨b2, hb2⟩ : ∃ b, decide (n2 < r) = b := ⟨_, rfl⟩
  have i1 : decide ((n1 : Int) < (N : Int)) = b1 := by rw [← hb1]; simp
  have i2 : decide ((n2 : Int) < (r : Int)) = b2 := by rw [← hb2]; simp
  have hbb : b1 = true ∨ (b1 = false ∧ b2 = true) := by
    rw [← hb1, ← hb2]
    by_cases h1 : N ≤ n1
    · exact .inr ⟨decide_eq_false (by omega), decide_eq_true (by by_cases h2 : r ≤ n2; exact (h ⟨h1, h2⟩).elim; omega)⟩
    · exact .inl (decide_eq_true (by omega))
  clear h hp hq hr hc hN
  obtain ⟨⟨c1, c2, c3, c4, c5⟩, ⟨u1, u2⟩, ⟨u3, u4⟩, ⟨u5, u6⟩, ⟨u7, u8⟩, ⟨u9, u10⟩, ⟨u11, u12⟩, ⟨u13, u14⟩⟩ := HU.out
  clear HU
  rcases hbb with rfl | ⟨rfl, rfl⟩
  · go_enter Try.func3, Try.ntmps3
    go_wp2_with fail
    refine (awake7_any _).mono ?_
    rintro e w1 ⟨rfl, hb⟩
    have HB1 := Lib.hid hb
    clear hb
    go_wp2_with fail
    refine (awake7_any _).mono ?_
    rintro e w9 ⟨rfl, hb⟩
    have HB9 := Lib.hid (below_nx HB1.out hb)
    clear hb
    go_wp2_with fail
    go_ret
    exact ⟨rfl, HB9.out⟩
  · go_enter Try.func3, Try.ntmps3
    go_wp2_with fail
    refine (awake7_any _).mono ?_
    rintro e w1 ⟨rfl, hb⟩
    have HB1 := Lib.hid hb
    clear hb
    go_wp2_with fail
    refine (awake7_any _).mono ?_
    rintro e w9 ⟨rfl, hb⟩
    have HB9 := Lib.hid (below_nx HB1.out hb)
    clear hb
    go_wp2_with fail
    go_ret
    exact ⟨rfl, HB9.out⟩
end Go.Proofs.Ytlhdcajamempoaa
