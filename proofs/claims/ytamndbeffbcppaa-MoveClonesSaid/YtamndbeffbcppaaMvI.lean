/-
The example; Great; Take. Conditions: as each says.
-/
import Derived.Test.YtamndbeffbcppaaMvH
set_option linter.unusedVariables false
namespace Go.Proofs.Ytamndbeffbcppaa
open Go.RowKit
attribute [local go_sem ↓] Go.wp_at_zero Go.wp_at_succ

theorem img_ex {l' : List Nat} {a b c d : Nat} (h : Img [a, b, c, d] 0 2 2 2 (fun x y => ([a, b, c, d] : List Nat).getD (0 + sw 0 1 x + y * 2) 0) l') : l' = [b, a, d, c] := by
  obtain ⟨h1, h2, h3⟩ := h
  refine ext_getD (by simpa using h1) fun i hi => ?_
  have hi4 : i < 4 := by simp at h1; omega
  have q0 := h2 0 (by omega) 0 (by omega)
  have q1 := h2 1 (by omega) 0 (by omega)
  have q2 := h2 0 (by omega) 1 (by omega)
  have q3 := h2 1 (by omega) 1 (by omega)
  simp [sw] at q0 q1 q2 q3
  match i, hi4 with
  | 0, _ => simpa using q0
  | 1, _ => simpa using q1
  | 2, _ => simpa using q2
  | 3, _ => simpa using q3
theorem four_wds4 : Wds [4613937818241073152, 4607182418800017408, 4616189618054758400, 4611686018427387904] := by
  intro b hb
  simp at hb
  omega

set_option maxRecDepth 100000 in
theorem awake4_any (w : World) : Calls Try.prog 7 #[] w fun e w' => e = .returned (.bool true) ∧ Below w.heap.size w w' := by
  have HR := Lib.hid (row_of_blk (Blk.new w 48 (f64s [4607182418800017408, 4611686018427387904, 4613937818241073152, 4616189618054758400]).toArray))
  have HB0 := Lib.hid ((Below.refl w.heap.size w).alloc (Nat.le_refl _) (.cells (f64s [4607182418800017408, 4611686018427387904, 4613937818241073152, 4616189618054758400]).toArray 48))
  go_enter Try.func7, Try.ntmps7
  go_wp2_with fail
  refine (dense_blk (some ⟨w.heap.size, 0, none⟩) 4 [4607182418800017408, 4611686018427387904, 4613937818241073152, 4616189618054758400] 2 2 _ (by omega) (by omega) HR.out (by decide) (by decide)).mono ?_
  rintro e w1 ⟨g, M, rfl, hd, hr, hg, hb⟩
  obtain rfl := dense_ex hd
  have HO := Lib.hid ((own_blk hr).nxt ((Below.refl w1.heap.size w1).alloc (Nat.le_refl _) (.cells #[.slice (some ⟨g, 0, none⟩) 4 4, .int .i64 0, .int .i64 2, .int .i64 2, .int .i64 2] 24)))
  have HB1 := Lib.hid (below_nx HB0.out hb)
  have HB2 := Lib.hid (below_al (below_nx HB0.out hb) (o := (.cells #[.slice (some ⟨g, 0, none⟩) 4 4, .int .i64 0, .int .i64 2, .int .i64 2, .int .i64 2] 24)))
  have HZ := Lib.hid (Blk.new w1 24 #[.slice (some ⟨g, 0, none⟩) 4 4, .int .i64 0, .int .i64 2, .int .i64 2, .int .i64 2])
  have hgw := hr.lt
  have hgg : w.heap.size ≤ g := by
    have h1 : (w.alloc (.cells (f64s [4607182418800017408, 4611686018427387904, 4613937818241073152, 4616189618054758400]).toArray 48)).heap.size ≤ g := hg
    simp at h1; omega
  have HG := Lib.hid hgg
  have HGw := Lib.hid hgw
  clear hr hd hb hg hgw hgg
  unfold mat
  obtain ⟨c0, c1, c2, c3, c4⟩ := cells5 HZ.out
  go_wp2_with fail
  have HRw := Lib.hid (rows_there g 4 [4607182418800017408, 4613937818241073152, 4611686018427387904, 4616189618054758400] 4 0 2 2 2 0 1 _ HO.out rfl (by omega) (by omega) (by omega) (by omega) (by omega) (by omega) (by omega))
  unfold mat at HRw
  refine HRw.out.mono ?_
  rintro e w2 ⟨rfl, l', ho, hi, hc⟩
  obtain rfl := img_ex hi
  have HZ2 := Lib.hid (hc.blk (by simp; have := HGw.out; omega) HZ.out)
  have HB3 := Lib.hid (hc.below HB2.out HB2.out.size (fun x hx => by rw [List.mem_singleton] at hx; subst hx; exact HG.out))
  have HO2 := Lib.hid (ho.nxt ((Below.refl w2.heap.size w2).alloc (Nat.le_refl _) (.cells (f64s [4613937818241073152, 4607182418800017408, 4616189618054758400, 4611686018427387904]).toArray 48)))
  have HB4 := Lib.hid (below_al HB3.out (o := .cells (f64s [4613937818241073152, 4607182418800017408, 4616189618054758400, 4611686018427387904]).toArray 48))
  have HR2 := Lib.hid (row_of_blk (Blk.new w2 48 (f64s [4613937818241073152, 4607182418800017408, 4616189618054758400, 4611686018427387904]).toArray))
  clear ho hi hc c0 c1 c2 c3 c4 HRw
  obtain ⟨c0, c1, c2, c3, c4⟩ := cells5 HZ2.out
  go_wp2_with fail
  refine (rall_any (some ⟨g, 0, none⟩) (some ⟨w2.heap.size, 0, none⟩) 4 4 _ _ _ four_wds4 four_wds4 HO2.out.row HR2.out (by decide) (Alike.refl _)).mono ?_
  rintro e w3 ⟨rfl, hb2⟩
  have HB5 := Lib.hid (below_nx HB4.out hb2)
  clear hb2
  go_wp2_with fail
  go_ret
  exact ⟨rfl, HB5.out⟩

/-- Is there more of a matrix than is looked at? -/
def greatB (n : Nat) (r k : Int) : Bool := decide (1000 < n) || decide (20 < r) || decide (20 < k)
theorem great_any (A : Option Addr) (n c : Nat) (off r k ld : Int) (w : World) : Calls Try.prog 8 #[mat A n c off r k ld] w fun e w' => e = .returned (.bool (greatB n r k)) ∧ Below w.heap.size w w' := by
  have hbel := fun (o : Obj) => (Below.refl w.heap.size w).alloc (Nat.le_refl _) o
  have e0 : decide ((1000 : Int) < (n : Int)) = decide (1000 < n) := decide_eq_decide.2 (by omega)
  unfold mat greatB
  by_cases h1 : (1000 : Int) < (n : Int)
  · have h2 : decide (1000 < n) = true := by simp; omega
    rw [h2]
    go_enter Try.func8, Try.ntmps8
    go_wp2_with fail
    go_ret
    exact ⟨by simp, hbel _⟩
  · have h2 : decide (1000 < n) = false := by simp; omega
    rw [h2]
    by_cases h3 : 20 < r
    · go_enter Try.func8, Try.ntmps8
      go_wp2_with fail
      go_ret
      exact ⟨by simp <;> omega, hbel _⟩
    · go_enter Try.func8, Try.ntmps8
      go_wp2_with fail
      go_ret
      exact ⟨by simp <;> omega, hbel _⟩
end Go.Proofs.Ytamndbeffbcppaa
