/-
Alone, Long, List, Write: the document's vectors. Conditions: as each says.
-/
import Derived.Test.YtlhdcajamempoaaQaf
set_option linter.unusedVariables false
namespace Go.Proofs.Ytlhdcajamempoaa
open Go.RowKit
attribute [local go_sem ↓] Go.wp_at_zero Go.wp_at_succ

theorem ralone_some (a : Addr) (c : Nat) (l : List Nat) (off k inc : Int) (w : World) (hA : Row w (some a) (f64s l)) (hl : l.length ≤ 1048576) :
    Calls Try.prog 16 #[vec (some a) l.length c off k inc] w fun e w' => ∃ g c', e = .returned (vec (some ⟨g, 0, none⟩) l.length c' off k inc) ∧ Own w' g l ∧ w.heap.size ≤ g ∧ l.length ≤ c' ∧ c' < 9223372036854775808 ∧ Below w.heap.size w w' := by
  obtain ⟨i0, hi, hz0, hz1, hz2⟩ := fi0
  have HA := Lib.hid hA
  clear hA
  unfold vec
  go_enter Try.func16, Try.ntmps16
  go_wp2_with (at_builtin; refine wpList_append_own _ rfl _ _ 24 rfl (w.heap.size + 1 + 1) 28 i0 (.float .f64 0) 1 8 Try.underlying24 hi hz0 hz1 hz2 rfl (by decide) _ _ _ rfl (own_empty_ _ _ (by simp)) a l.length c (f64s l) rfl (by simp [f64s]) ?c1 (one_cells l) ?c3 ?c4 ?c5 ?_)
  case c1 => exact row_add (HA.out.below ((((Below.refl _ _).alloc (Nat.le_refl _) _).alloc (by simp) _).alloc (by simp; omega) _))
  case c3 => unfold maxLen; omega
  case c4 => omega
  case c5 => simp
  intro v' w' hown hgrow hne
  obtain ⟨g, c', rfl, hg, hc, hm, ho⟩ := own_of hown hne rfl
  have hO : Only (w.heap.size + 1 + 1) (((w.alloc (.cells #[.slice (some a) l.length c, .int .i64 off, .int .i64 k, .int .i64 inc] 32)).alloc (.cells #[.slice none 0 0, .int .i64 0, .int .i64 0, .int .i64 0] 32)).alloc (.cells #[] 28)) w' := hgrow
  have HB := Lib.hid (((((Below.refl w.heap.size w).alloc (Nat.le_refl _) (.cells #[.slice (some a) l.length c, .int .i64 off, .int .i64 k, .int .i64 inc] 32)).alloc (by simp) (.cells #[.slice none 0 0, .int .i64 0, .int .i64 0, .int .i64 0] 32)).alloc (by simp; omega) (.cells #[] 28)).grown hgrow (by simp; omega) (fun k hk => by simp [Value.ownBlock] at hk; omega))
  have H0 := Lib.hid (hO.blk (by omega) (((Blk.new w 32 #[.slice (some a) l.length c, .int .i64 off, .int .i64 k, .int .i64 inc]).alloc (.cells #[.slice none 0 0, .int .i64 0, .int .i64 0, .int .i64 0] 32)).alloc (.cells #[] 28)))
  have H1 := Lib.hid (hO.blk (by omega) ((Blk.new_ (w.alloc (.cells #[.slice (some a) l.length c, .int .i64 off, .int .i64 k, .int .i64 inc] 32)) 32 #[.slice none 0 0, .int .i64 0, .int .i64 0, .int .i64 0] (w.heap.size + 1) (by simp)).alloc (.cells #[] 28)))
  have h2 : Blk (w'.setCell ⟨w.heap.size, 0, none⟩ (.slice (some ⟨g, 0, none⟩) l.length c')) w.heap.size 32 #[.slice (some ⟨g, 0, none⟩) l.length c', .int .i64 off, .int .i64 k, .int .i64 inc] := by simpa using H0.out.set_ 0 (.slice (some ⟨g, 0, none⟩) l.length c')
  have H2 := Lib.hid h2
  have H3 := Lib.hid (H1.out.other (p := ⟨w.heap.size, 0, none⟩) (by simp) (.slice (some ⟨g, 0, none⟩) l.length c'))
  have HO2 := Lib.hid (ho.other (p := ⟨w.heap.size, 0, none⟩) (by simp; omega) (.slice (some ⟨g, 0, none⟩) l.length c'))
  have HB2 := Lib.hid (HB.out.setCell (p := ⟨w.heap.size, 0, none⟩) (by simp) (.slice (some ⟨g, 0, none⟩) l.length c'))
  clear ho hgrow hown hO h2
  obtain ⟨k0, k1, k2, k3⟩ := cells4w H0.out
  obtain ⟨f0, _, _, _⟩ := frozen4w H0.out
  go_upto_region 2 with fail
  generalize w'.setCell ⟨w.heap.size, 0, none⟩ (.slice (some ⟨g, 0, none⟩) l.length c') = W2 at *
  clear k0 k1 k2 k3 f0
  obtain ⟨k0, k1, k2, k3⟩ := cells4w H2.out
  obtain ⟨z0, z1, z2, z3⟩ := cells4w H3.out
  obtain ⟨y0, y1, y2, y3⟩ := frozen4w H3.out
  have HSt := Lib.hid (H3.out.store4v (.slice (some ⟨g, 0, none⟩) l.length c') (.int .i64 off) (.int .i64 k) (.int .i64 inc))
  have HBe := Lib.hid (below_sets4 HB2.out (show w.heap.size ≤ w.heap.size + 1 by omega) (.slice (some ⟨g, 0, none⟩) l.length c') (.int .i64 off) (.int .i64 k) (.int .i64 inc))
  have HOw := Lib.hid (show Own ((((W2.setCell ⟨w.heap.size + 1, 0, none⟩ (.slice (some ⟨g, 0, none⟩) l.length c')).setCell ⟨w.heap.size + 1, 1, none⟩ (.int .i64 off)).setCell ⟨w.heap.size + 1, 2, none⟩ (.int .i64 k)).setCell ⟨w.heap.size + 1, 3, none⟩ (.int .i64 inc)) g l from
    (((HO2.out.other (p := ⟨w.heap.size + 1, 0, none⟩) (by simp; omega) (.slice (some ⟨g, 0, none⟩) l.length c')).other (p := ⟨w.heap.size + 1, 1, none⟩) (by simp; omega) (.int .i64 off)).other (p := ⟨w.heap.size + 1, 2, none⟩) (by simp; omega) (.int .i64 k)).other (p := ⟨w.heap.size + 1, 3, none⟩) (by simp; omega) (.int .i64 inc))
  go_wp2_with fail
  obtain ⟨j0, j1, j2, j3⟩ := cells4w HSt.out
  exact bodyPost_ret (v := .agg #[.slice (some ⟨g, 0, none⟩) l.length c', .int .i64 off, .int .i64 k, .int .i64 inc]) (by simp [results, Try.results16, go_sem, j0, j1, j2, j3]) rfl ⟨g, c', rfl, HOw.out, by omega, by omega, hm, HBe.out⟩

theorem ralone_nil (c : Nat) (off k inc : Int) (w : World) :
    Calls Try.prog 16 #[vec none 0 c off k inc] w fun e w' => ∃ g c', e = .returned (vec (some ⟨g, 0, none⟩) 0 c' off k inc) ∧ Own w' g [] ∧ w.heap.size ≤ g ∧ 0 ≤ c' ∧ c' < 9223372036854775808 ∧ Below w.heap.size w w' := by
  unfold vec
  go_enter Try.func16, Try.ntmps16
  go_wp2_with (at_builtin; refine wpList_append_nil _ rfl _ _ rfl rfl _ _ rfl rfl ?_)
  intro w' g c' hw' hg hc'
  have hm : c' < 9223372036854775808 := by omega
  have HB := Lib.hid (show Below w.heap.size w w' by rw [hw']; exact (((Below.refl w.heap.size w).alloc (Nat.le_refl _) (.cells #[.slice none 0 c, .int .i64 off, .int .i64 k, .int .i64 inc] 32)).alloc (by simp) (.cells #[.slice none 0 0, .int .i64 0, .int .i64 0, .int .i64 0] 32)).alloc (by simp; omega) (.cells #[] 28))
  have H0 := Lib.hid (show Blk w' w.heap.size 32 #[.slice none 0 c, .int .i64 off, .int .i64 k, .int .i64 inc] by rw [hw']; exact ((Blk.new w 32 #[.slice none 0 c, .int .i64 off, .int .i64 k, .int .i64 inc]).alloc (.cells #[.slice none 0 0, .int .i64 0, .int .i64 0, .int .i64 0] 32)).alloc (.cells #[] 28))
  have H1 := Lib.hid (show Blk w' (w.heap.size + 1) 32 #[.slice none 0 0, .int .i64 0, .int .i64 0, .int .i64 0] by rw [hw']; exact (Blk.new_ (w.alloc (.cells #[.slice none 0 c, .int .i64 off, .int .i64 k, .int .i64 inc] 32)) 32 #[.slice none 0 0, .int .i64 0, .int .i64 0, .int .i64 0] (w.heap.size + 1) (by simp)).alloc (.cells #[] 28))
  have ho : Own w' g [] := by rw [hw']; exact ⟨#[], Blk.new_ _ _ _ _ (by simp; omega), rfl⟩
  have hg2 : w.heap.size + 1 + 1 ≤ g := by omega
  have h2 : Blk (w'.setCell ⟨w.heap.size, 0, none⟩ (.slice (some ⟨g, 0, none⟩) 0 c')) w.heap.size 32 #[.slice (some ⟨g, 0, none⟩) 0 c', .int .i64 off, .int .i64 k, .int .i64 inc] := by simpa using H0.out.set_ 0 (.slice (some ⟨g, 0, none⟩) 0 c')
  have H2 := Lib.hid h2
  have H3 := Lib.hid (H1.out.other (p := ⟨w.heap.size, 0, none⟩) (by simp) (.slice (some ⟨g, 0, none⟩) 0 c'))
  have HO2 := Lib.hid (ho.other (p := ⟨w.heap.size, 0, none⟩) (by simp; omega) (.slice (some ⟨g, 0, none⟩) 0 c'))
  have HB2 := Lib.hid (HB.out.setCell (p := ⟨w.heap.size, 0, none⟩) (by simp) (.slice (some ⟨g, 0, none⟩) 0 c'))
  clear hw' hg hc' ho h2
  obtain ⟨k0, k1, k2, k3⟩ := cells4w H0.out
  obtain ⟨f0, _, _, _⟩ := frozen4w H0.out
  go_upto_region 2 with fail
  generalize w'.setCell ⟨w.heap.size, 0, none⟩ (.slice (some ⟨g, 0, none⟩) 0 c') = W2 at *
  clear k0 k1 k2 k3 f0
  obtain ⟨k0, k1, k2, k3⟩ := cells4w H2.out
  obtain ⟨z0, z1, z2, z3⟩ := cells4w H3.out
  obtain ⟨y0, y1, y2, y3⟩ := frozen4w H3.out
  have HSt := Lib.hid (H3.out.store4v (.slice (some ⟨g, 0, none⟩) 0 c') (.int .i64 off) (.int .i64 k) (.int .i64 inc))
  have HBe := Lib.hid (below_sets4 HB2.out (show w.heap.size ≤ w.heap.size + 1 by omega) (.slice (some ⟨g, 0, none⟩) 0 c') (.int .i64 off) (.int .i64 k) (.int .i64 inc))
  have HOw := Lib.hid (show Own ((((W2.setCell ⟨w.heap.size + 1, 0, none⟩ (.slice (some ⟨g, 0, none⟩) 0 c')).setCell ⟨w.heap.size + 1, 1, none⟩ (.int .i64 off)).setCell ⟨w.heap.size + 1, 2, none⟩ (.int .i64 k)).setCell ⟨w.heap.size + 1, 3, none⟩ (.int .i64 inc)) g [] from
    (((HO2.out.other (p := ⟨w.heap.size + 1, 0, none⟩) (by simp; omega) (.slice (some ⟨g, 0, none⟩) 0 c')).other (p := ⟨w.heap.size + 1, 1, none⟩) (by simp; omega) (.int .i64 off)).other (p := ⟨w.heap.size + 1, 2, none⟩) (by simp; omega) (.int .i64 k)).other (p := ⟨w.heap.size + 1, 3, none⟩) (by simp; omega) (.int .i64 inc))
  go_wp2_with fail
  obtain ⟨j0, j1, j2, j3⟩ := cells4w HSt.out
  exact bodyPost_ret (v := .agg #[.slice (some ⟨g, 0, none⟩) 0 c', .int .i64 off, .int .i64 k, .int .i64 inc]) (by simp [results, Try.results16, go_sem, j0, j1, j2, j3]) rfl ⟨g, c', rfl, HOw.out, by omega, by omega, hm, HBe.out⟩

theorem ralone_any (A : Option Addr) (c : Nat) (l : List Nat) (off k inc : Int) (w : World) (hA : Row w A (f64s l)) (hl : l.length ≤ 1048576) :
    Calls Try.prog 16 #[vec A l.length c off k inc] w fun e w' => ∃ g c', e = .returned (vec (some ⟨g, 0, none⟩) l.length c' off k inc) ∧ Own w' g l ∧ w.heap.size ≤ g ∧ l.length ≤ c' ∧ c' < 9223372036854775808 ∧ Below w.heap.size w w' := by
  cases A with
  | some a => exact ralone_some a c l off k inc w hA hl
  | none =>
    rcases hA with h | ⟨b, o, h, _⟩
    · obtain rfl : l = [] := by simpa [f64s] using h
      exact ralone_nil c off k inc w
    · cases h

/-- Is there more of a vector than is looked at? -/
def longB (n : Nat) (k : Int) : Bool := decide (1000 < n) || decide (60 < k)
theorem long_any (A : Option Addr) (n c : Nat) (off k inc : Int) (w : World) : Calls Try.prog 14 #[vec A n c off k inc] w fun e w' => e = .returned (.bool (longB n k)) ∧ Below w.heap.size w w' := by
  have hbel := fun (o : Obj) => (Below.refl w.heap.size w).alloc (Nat.le_refl _) o
  unfold vec longB
  by_cases h1 : (1000 : Int) < (n : Int)
  · have h2 : decide (1000 < n) = true := by simp; omega
    rw [h2]
    go_enter Try.func14, Try.ntmps14
    go_wp2_with fail
    go_ret
    exact ⟨by simp, hbel _⟩
  · have h2 : decide (1000 < n) = false := by simp; omega
    rw [h2]
    go_enter Try.func14, Try.ntmps14
    go_wp2_with fail
    go_ret
    exact ⟨by simp <;> omega, hbel _⟩

end Go.Proofs.Ytlhdcajamempoaa
/-
The document's Pair. Conditions: as each says.
-/
set_option linter.unusedVariables false
namespace Go.Proofs.Ytlhdcajamempoaa
open Go.RowKit
attribute [local go_sem ↓] Go.wp_at_zero Go.wp_at_succ

theorem wrap4 {o o' a a' P Q : Nat} (hP : P < 1048576) (hQ : Q < 1048576) (h : o + a = P) (h' : o' + a' = Q) : wrap64 (a : Int) = (a : Int) ∧ wrap64 (a' : Int) = (a' : Int) ∧ wrap64 (P : Int) = (P : Int) ∧ wrap64 (Q : Int) = (Q : Int) :=
  ⟨wrap_id (by unfold I64; omega), wrap_id (by unfold I64; omega), wrap_id (by unfold I64; omega), wrap_id (by unfold I64; omega)⟩
end Go.Proofs.Ytlhdcajamempoaa
