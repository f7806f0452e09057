/-
A column of a matrix. Conditions: the matrix is right, the column is there.
-/
import Derived.Test.YtbdlfaclakppgaaMvF
set_option linter.unusedVariables false
set_option linter.unusedSimpArgs false
set_option linter.unnecessarySimpa false
namespace Go.Proofs.Ytbdlfaclakppgaa
open Go.RowKit
attribute [local go_sem ↓] Go.wp_at_zero Go.wp_at_succ

/-- A column's place. -/
def ncolOff (off r ld j : Int) : Int := if r = 0 then off else off + j * ld
set_option maxHeartbeats 1000000 in
theorem ncol_some (A : Option Addr) (n c : Nat) (off r k ld j : Int) (w : World) (hn : n < 9223372036854775808) (ho : I64 off) (hr : I64 r) (hk : I64 k) (hi : I64 ld) (h1 : I64 j) (hm : matB n off r k ld = true) (h : 0 ≤ j ∧ j < k) :
    Calls Try.prog 25 #[mat A n c off r k ld, .int .i64 j] w fun e w' => e = .returned (vec A n c (ncolOff off r ld j) r 1) ∧ Below w.heap.size w w' := by
  have q1 := of_decide_eq_true hm
  have hk' := hk
  have hr' := hr
  unfold I64 at hk' hr'
  have HG := Lib.hid (fun W => good_any A n c off r k ld W hn ho hr hk hi)
  rw [hm] at HG
  have HW := Lib.hid (fun W => within_any j k W)
  have hww : (decide (0 ≤ j) && decide (j < k)) = true := by simp; omega
  rw [hww] at HW
  have HPt := Lib.hid (fun W => part_some A n c off r k ld 0 j r 1 W hn ho hr hk hi (by unfold I64; omega) h1 hr (by unfold I64; omega) (by
    unfold partB
    rw [hm]
    have e1 : fitsB 0 r r = true := decide_eq_true (by omega)
    have e2 : fitsB j 1 k = true := decide_eq_true (by omega)
    rw [e1, e2]; rfl))
  have hpo : partOff off ld 0 j r 1 = ncolOff off r ld j := by
    unfold partOff ncolOff
    by_cases e : r = 0
    · rw [if_pos (by omega), if_pos e]
    · rw [if_neg (by omega), if_neg e]; omega
  rw [hpo] at HPt
  generalize ncolOff off r ld j = p at *
  clear hn ho hr hk hi h1 hm h q1 hk' hr' hpo hww
  unfold mat vec at *
  go_enter Try.func25, Try.ntmps25
  have HZ0 := Lib.hid ((Blk.new w 24 #[.slice A n c, .int .i64 off, .int .i64 r, .int .i64 k, .int .i64 ld]).alloc (.cells #[.slice none 0 0, .int .i64 0, .int .i64 0, .int .i64 0] 45))
  have HZ1 := Lib.hid (Blk.new_ (w.alloc (.cells #[.slice A n c, .int .i64 off, .int .i64 r, .int .i64 k, .int .i64 ld] 24)) 45 #[.slice none 0 0, .int .i64 0, .int .i64 0, .int .i64 0] (w.heap.size + 1) (by simp))
  have HB0 := Lib.hid (((Below.refl w.heap.size w).alloc (Nat.le_refl _) (.cells #[.slice A n c, .int .i64 off, .int .i64 r, .int .i64 k, .int .i64 ld] 24)).alloc (by simp) (.cells #[.slice none 0 0, .int .i64 0, .int .i64 0, .int .i64 0] 45))
  go_wp2_with fail
  refine (HG.out _).mono ?_
  rintro e w1 ⟨rfl, hb⟩
  have HZ2 := Lib.hid (HZ0.out.nxt hb)
  have HZ3 := Lib.hid (HZ1.out.nxt hb)
  have HB1 := Lib.hid (HB0.out.trans (hb.mono HB0.out.size))
  clear hb
  obtain ⟨c0, c1, c2, c3, c4⟩ := cells5 HZ2.out
  go_wp2_with fail
  refine (HW.out _).mono ?_
  rintro e w2 ⟨rfl, rfl⟩
  go_wp2_with fail
  have hbd : Blk w1.drew (w.heap.size + 1) 45 #[.slice none 0 0, .int .i64 0, .int .i64 0, .int .i64 0] := HZ3.out
  have hne : w.heap.size ≠ w.heap.size + 1 := by omega
  go_region_held3 (fun w' => w'.cell? ⟨w.heap.size, 0, none⟩ = some (.slice A n c) ∧ w'.cell? ⟨w.heap.size, 1, none⟩ = some (.int .i64 off) ∧ w'.cell? ⟨w.heap.size, 2, none⟩ = some (.int .i64 r) ∧ w'.cell? ⟨w.heap.size, 3, none⟩ = some (.int .i64 k) ∧ w'.cell? ⟨w.heap.size, 4, none⟩ = some (.int .i64 ld) ∧ Below w.heap.size w w')
    (first | exact ⟨c0, c1, c2, c3, c4, HB1.out.drew⟩ | (with_reducible exact held5 ‹_ ∧ _ ∧ _ ∧ _ ∧ _ ∧ Below w.heap.size w _› hbA) | exact heldW5 (R := fun W => Below w.heap.size w W) ‹_ ∧ _ ∧ _ ∧ _ ∧ _ ∧ Below w.heap.size w _› (fun b o h => cell_sets4 h _ _ _ _) hne hne hne hne hne (fun h => below_sets4 h (by omega) _ _ _ _))
    (first
      | (go_at_call 30; refine (HPt.out _).mono ?_; rintro e1 wA ⟨rfl, hbA⟩; have hbR := Blk.nxt hbd hbA; obtain ⟨r0, r1, r2, r3⟩ := cells4w hbR; obtain ⟨f0, f1, f2, f3⟩ := frozen4w hbR; skip))
  go_wp2_with fail
  obtain ⟨j0, j1, j2, j3⟩ := cells4w (Blk.store4v hbR (.slice A n c) (.int .i64 p) (.int .i64 r) (.int .i64 1))
  exact bodyPost_ret (v := .agg #[.slice A n c, .int .i64 p, .int .i64 r, .int .i64 1]) (by simp [results, Try.results25, go_sem, j0, j1, j2, j3]) rfl ⟨rfl, (‹_ ∧ _ ∧ _ ∧ _ ∧ _ ∧ Below w.heap.size w _›).2.2.2.2.2⟩


end Go.Proofs.Ytbdlfaclakppgaa
