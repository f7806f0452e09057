/-
Set: a number of a matrix. Conditions: as each says.
-/
import Derived.Test.YtbjopdnfjjcpoaaZVwH
set_option linter.unusedVariables false
namespace Go.Proofs.Ytbjopdnfjjcpoaa
open Go.RowKit
attribute [local go_sem ↓] Go.wp_at_zero Go.wp_at_succ

theorem Only.of_below {g : Nat} {w w' : World} (h : Below w.heap.size w w') : Only g w w' := ⟨h.os, h.tape, h.output, h.size, fun k hk _ => h.block k hk⟩
theorem within_any (i n : Int) (w : World) : Calls Try.prog 41 #[.int .i64 i, .int .i64 n] w fun e w' => e = .returned (.bool (decide (0 ≤ i) && decide (i < n))) ∧ w = w' := by
  go_enter Try.func41, Try.ntmps41
  go_wp2
  all_goals
    go_ret
    refine ⟨ret_bool ?_, rfl⟩
    rw [Bool.eq_iff_iff]
    simp_all <;> omega

/-- Is there a row i and a column j? -/
def thereB (n : Nat) (off r k ld i j : Int) : Bool := matB n off r k ld && (decide (0 ≤ i) && decide (i < r)) && (decide (0 ≤ j) && decide (j < k))

theorem holds_any (A : Option Addr) (n c : Nat) (off r k ld i j : Int) (w : World) (hn : n < 9223372036854775808) (ho : I64 off) (hr : I64 r) (hk : I64 k) (hi : I64 ld) :
    Calls Try.prog 37 #[mat A n c off r k ld, .int .i64 i, .int .i64 j] w fun e w' => e = .returned (.bool (thereB n off r k ld i j)) ∧ Below w.heap.size w w' := by
  have H1 := Lib.hid (fun W => good_any A n c off r k ld W hn ho hr hk hi)
  clear hn ho hr hk hi
  unfold mat thereB
  generalize matB n off r k ld = x at *
  obtain ⟨y, hy⟩ : ∃ y, (decide (0 ≤ i) && decide (i < r)) = y := ⟨_, rfl⟩
  obtain ⟨z, hz⟩ : ∃ z, (decide (0 ≤ j) && decide (j < k)) = z := ⟨_, rfl⟩
  have H2 := Lib.hid (fun W => within_any i r W)
  have H3 := Lib.hid (fun W => within_any j k W)
  rw [hy] at H2
  rw [hz] at H3
  rw [hy, hz]
  clear hy hz
  go_enter Try.func37, Try.ntmps37
  go_wp2_with fail
  refine (H1.out _).mono ?_
  rintro e w1 ⟨rfl, hb⟩
  obtain ⟨c0, c1, c2, c3, c4⟩ := cells5 ((Blk.new w 24 #[.slice A n c, .int .i64 off, .int .i64 r, .int .i64 k, .int .i64 ld]).nxt hb)
  have HB := Lib.hid (((Below.refl w.heap.size w).alloc (Nat.le_refl _) (.cells #[.slice A n c, .int .i64 off, .int .i64 r, .int .i64 k, .int .i64 ld] 24)).trans (hb.mono (by simp)))
  clear hb
  cases x
  · go_wp2_with fail
    go_ret
    exact ⟨rfl, HB.out⟩
  · go_wp2_with fail
    refine (H2.out _).mono ?_
    rintro e w' ⟨rfl, rfl⟩
    cases y
    · go_wp2_with fail
      go_ret
      exact ⟨rfl, HB.out⟩
    · go_wp2_with fail
      refine (H3.out _).mono ?_
      rintro e w' ⟨rfl, rfl⟩
      go_wp2_with fail
      go_ret
      exact ⟨rfl, HB.out⟩

theorem place_any (A : Option Addr) (n c : Nat) (off r k ld : Int) (i j p : Int) (w : World) (hp : off + i + j * ld = p) (h1 : I64 (off + i)) (h2 : I64 (j * ld)) (h3 : I64 p) :
    Calls Try.prog 38 #[mat A n c off r k ld, .int .i64 i, .int .i64 j] w fun e w' => e = .returned (.int .i64 p) ∧ Below w.heap.size w w' := by
  unfold I64 at h1 h2 h3
  have w1 : IntKind.i64.wrap (off + i) = off + i := wrapi (by omega) (by omega)
  have w2 : IntKind.i64.wrap (j * ld) = j * ld := wrapi (by omega) (by omega)
  have w3 : IntKind.i64.wrap p = p := wrapi (by omega) (by omega)
  have v1 : wrap64 (off + i) = off + i := by unfold wrap64; omega
  have v3 : wrap64 p = p := by unfold wrap64; omega
  unfold mat
  go_enter Try.func38, Try.ntmps38
  go_wp2_with fail
  go_ret
  exact ⟨rfl, (Below.refl w.heap.size w).alloc (Nat.le_refl _) _⟩

theorem set_none (A : Option Addr) (n c : Nat) (off r k ld i j : Int) (v : Nat) (w : World) (hn : n < 9223372036854775808) (ho : I64 off) (hr : I64 r) (hk : I64 k) (hi : I64 ld) (ht : thereB n off r k ld i j = false) :
    Calls Try.prog 30 #[mat A n c off r k ld, .int .i64 i, .int .i64 j, .float .f64 v] w fun e w' => e = .returned (.bool false) ∧ Below w.heap.size w w' := by
  have H1 := Lib.hid (fun W => holds_any A n c off r k ld i j W hn ho hr hk hi)
  rw [ht] at H1
  clear ht hn ho hr hk hi
  unfold mat at *
  go_enter Try.func30, Try.ntmps30
  go_wp2_with fail
  refine (H1.out _).mono ?_
  rintro e w1 ⟨rfl, hb⟩
  have HB := Lib.hid (((Below.refl w.heap.size w).alloc (Nat.le_refl _) (.cells #[.slice A n c, .int .i64 off, .int .i64 r, .int .i64 k, .int .i64 ld] 24)).trans (hb.mono (by simp)))
  clear hb
  go_wp2_with fail
  go_ret
  exact ⟨rfl, HB.out⟩

theorem there_place {n : Nat} {off r k ld i j : Int} (h : thereB n off r k ld i j = true) : ∃ p : Nat, off + i + j * ld = (p : Int) ∧ p < n ∧ 0 ≤ off ∧ 0 ≤ i ∧ 0 ≤ j * ld := by
  unfold thereB matB at h
  simp only [Bool.and_eq_true, decide_eq_true_eq] at h
  obtain ⟨⟨⟨h1, h2, h3, h4, h5, h6⟩, h7, h8⟩, h9, h10⟩ := h
  have e : j * ld ≤ (k - 1) * ld := Int.mul_le_mul_of_nonneg_right (by omega) (by omega)
  have e0 : 0 ≤ j * ld := Int.mul_nonneg (by omega) (by omega)
  rcases h6 with h6 | h6 | h6
  · omega
  · omega
  · exact ⟨(off + i + j * ld).toNat, by omega, by omega, by omega, by omega, e0⟩

theorem set_there (g c : Nat) (l : List Nat) (off r k ld i j : Int) (v p : Nat) (w : World) (hO : Own w g l) (hn : l.length < 9223372036854775808) (ho : I64 off) (hr : I64 r) (hk : I64 k) (hi : I64 ld) (ht : thereB l.length off r k ld i j = true) (hp : off + i + j * ld = (p : Int)) :
    Calls Try.prog 30 #[mat (some ⟨g, 0, none⟩) l.length c off r k ld, .int .i64 i, .int .i64 j, .float .f64 v] w fun e w' => e = .returned (.bool true) ∧ Own w' g (l.set p v) ∧ Only g w w' := by
  obtain ⟨p', hp', hpn, q1, q2, q3⟩ := there_place ht
  obtain rfl : p' = p := by omega
  have H1 := Lib.hid (fun W => holds_any (some ⟨g, 0, none⟩) l.length c off r k ld i j W hn ho hr hk hi)
  rw [ht] at H1
  have H2 := Lib.hid (fun W => place_any (some ⟨g, 0, none⟩) l.length c off r k ld i j p' W hp (by unfold I64; omega) (by unfold I64; omega) (by unfold I64; omega))
  have HO := Lib.hid hO
  have HP := Lib.hid hpn
  have Hn := Lib.hid hn
  have hpn2 : (p' : Int) < (l.length : Int) := by omega
  clear hO ht hn ho hr hk hi hp hp' q1 q2 q3
  unfold mat at *
  go_enter Try.func30, Try.ntmps30
  go_wp2_with fail
  refine (H1.out _).mono ?_
  rintro e w1 ⟨rfl, hb⟩
  have hblk := (Blk.new w 24 #[.slice (some ⟨g, 0, none⟩) l.length c, .int .i64 off, .int .i64 r, .int .i64 k, .int .i64 ld]).nxt hb
  obtain ⟨c0, c1, c2, c3, c4⟩ := cells5 hblk
  have HB := Lib.hid (((Below.refl w.heap.size w).alloc (Nat.le_refl _) (.cells #[.slice (some ⟨g, 0, none⟩) l.length c, .int .i64 off, .int .i64 r, .int .i64 k, .int .i64 ld] 24)).trans (hb.mono (by simp)))
  clear hb hblk
  go_wp2_with fail
  have HO1 := Lib.hid (HO.out.nxt HB.out)
  have hl1 : g < w1.drew.heap.size := HO1.out.lt
  have d0 : w1.drew.cell? ⟨g, p', none⟩ = _ := HO1.out.get p' HP.out
  have d1 : w1.drew.frozen? ⟨g, p', none⟩ = false := HO1.out.frozen p'
  have b0 : w1.drew.cell? ⟨w.heap.size, 0, none⟩ = _ := c0
  have b1 : w1.drew.cell? ⟨w.heap.size, 1, none⟩ = _ := c1
  have b2 : w1.drew.cell? ⟨w.heap.size, 2, none⟩ = _ := c2
  have b3 : w1.drew.cell? ⟨w.heap.size, 3, none⟩ = _ := c3
  have b4 : w1.drew.cell? ⟨w.heap.size, 4, none⟩ = _ := c4
  go_region_with (go_at_call 38; refine (H2.out _).mono ?_; rintro e w2 ⟨rfl, hb2⟩; have r0 := cell_below d0 hb2; have r1 := (hb2.frozen (p := ⟨g, p', none⟩) hl1).trans d1; have s0 := cell_below b0 hb2; skip)
  all_goals
    have HB2 := Lib.hid (HB.out.drew.trans (hb2.mono (by have := HB.out.size; simpa using this)))
    have how := (HO1.out.drew.nxt hb2).set_ p' v HP.out
    have HOw := Lib.hid how
    clear hb2 how r0 r1 s0
    go_wp2_with fail
    go_ret
    exact ⟨rfl, HOw.out, (Only.of_below HB2.out).set_ p' _⟩
end Go.Proofs.Ytbjopdnfjjcpoaa
