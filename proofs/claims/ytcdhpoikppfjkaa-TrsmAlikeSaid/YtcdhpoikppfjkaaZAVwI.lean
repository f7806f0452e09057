/-
Set: a number of a matrix. Conditions: as each says.
-/
import Derived.Test.YtcdhpoikppfjkaaZAVwH
set_option linter.unusedVariables false
namespace Go.Proofs.Ytcdhpoikppfjkaa
open Go.RowKit
attribute [local go_sem ↓] Go.wp_at_zero Go.wp_at_succ

theorem Only.of_below {g : Nat} {w w' : World} (h : Below w.heap.size w w') : Only g w w' := ⟨h.os, h.tape, h.output, h.size, fun k hk _ => h.block k hk⟩
theorem within_any (i n : Int) (w : World) : Calls Try.prog 65 #[.int .i64 i, .int .i64 n] w fun e w' => e = .returned (.bool (decide (0 ≤ i) && decide (i < n))) ∧ w = w' := by
  go_enter Try.func65, Try.ntmps65
  go_wp2
  all_goals
    go_ret
    refine ⟨ret_bool ?_, rfl⟩
    rw [Bool.eq_iff_iff]
    simp_all <;> omega

/-- Is there a row i and a column j? -/
def thereB (n : Nat) (off r k ld i j : Int) : Bool := matB n off r k ld && (decide (0 ≤ i) && decide (i < r)) && (decide (0 ≤ j) && decide (j < k))

theorem holds_any (A : Option Addr) (n c : Nat) (off r k ld i j : Int) (w : World) (hn : n < 9223372036854775808) (ho : I64 off) (hr : I64 r) (hk : I64 k) (hi : I64 ld) :
    Calls Try.prog 59 #[mat A n c off r k ld, .int .i64 i, .int .i64 j] w fun e w' => e = .returned (.bool (thereB n off r k ld i j)) ∧ Below w.heap.size w w' := by
  have H1 := Lib.hid (fun W => good_any A n c off r k ld W hn ho hr hk hi)
  clear hn ho hr hk hi
  unfold mat thereB
  generalize matB n off r k ld = x at *
  obtain ⟨y, hy⟩ : ∃ y, (decide (0 ≤ i) && decide (i < r)) = y := ⟨_, rfl⟩
  obtain ⟨z, hz⟩ : ∃ z, (decide (0 ≤ j) && decide (j < k)) = z := ⟨_, rfl⟩
  have H2 := Lib.hid (fun W => within_any i r W)
  have H3 := Lib.hid (fun W => within_any j k W)
  rw [hy] at H2
  rw [hz] at H3
  rw [hy, hz]
  clear hy hz
  go_enter Try.func59, Try.ntmps59
  go_wp2_with fail
  refine (H1.out _).mono ?_
  rintro e w1 ⟨rfl, hb⟩
  obtain ⟨c0, c1, c2, c3, c4⟩ := cells5 ((Blk.new w 24 #[.slice A n c, .int .i64 off, .int .i64 r, .int .i64 k, .int .i64 ld]).nxt hb)
  have HB := Lib.hid (((Below.refl w.heap.size w).alloc (Nat.le_refl _) (.cells #[.slice A n c, .int .i64 off, .int .i64 r, .int .i64 k, .int .i64 ld] 24)).trans (hb.mono (by simp)))
  clear hb
  cases x
  · go_wp2_with fail
    go_ret
    exact ⟨rfl, HB.out⟩
  · go_wp2_with fail
    refine (H2.out _).mono ?_
    rintro e w' ⟨rfl, rfl⟩
    cases y
    · go_wp2_with fail
      go_ret
      exact ⟨rfl, HB.out⟩
    · go_wp2_with fail
      refine (H3.out _).mono ?_
      rintro e w' ⟨rfl, rfl⟩
      go_wp2_with fail
      go_ret
      exact ⟨rfl, HB.out⟩

theorem place_any (A : Option Addr) (n c : Nat) (off r k ld : Int) (i j p : Int) (w : World) (hp : off + i + j * ld = p) (h1 : I64 (off + i)) (h2 : I64 (j * ld)) (h3 : I64 p) :
    Calls Try.prog 58 #[mat A n c off r k ld, .int .i64 i, .int .i64 j] w fun e w' => e = .returned (.int .i64 p) ∧ Below w.heap.size w w' := by
  unfold I64 at h1 h2 h3
  have w1 : IntKind.i64.wrap (off + i) = off + i := wrapi (by omega) (by omega)
  have w2 : IntKind.i64.wrap (j * ld) = j * ld := wrapi (by omega) (by omega)
  have w3 : IntKind.i64.wrap p = p := wrapi (by omega) (by omega)
  have v1 : wrap64 (off + i) = off + i := by unfold wrap64; omega
  have v3 : wrap64 p = p := by unfold wrap64; omega
  unfold mat
  go_enter Try.func58, Try.ntmps58
  go_wp2_with fail
  go_ret
  exact ⟨rfl, (Below.refl w.heap.size w).alloc (Nat.le_refl _) _⟩

end Go.Proofs.Ytcdhpoikppfjkaa
