/-
The example; Great; Take. Conditions: as each says.
-/
import Derived.Test.YtlhdcajamempoaaSal
import Derived.Test.YtlhdcajamempoaaSad
set_option linter.unusedVariables false
namespace Go.Proofs.Ytlhdcajamempoaa
open Go.RowKit
attribute [local go_sem ↓] Go.wp_at_zero Go.wp_at_succ

theorem img_ex {l' : List Nat} {a b c d : Nat} (h : Img [a, b, c, d] 0 2 2 2 (fun x y => ([a, b, c, d] : List Nat).getD (0 + sw 0 1 x + y * 2) 0) l') : l' = [b, a, d, c] := by
  obtain ⟨h1, h2, h3⟩ := h
  refine ext_getD (by simpa using h1) fun i hi => ?_
  have hi4 : i < 4 := by simp at h1; omega
  have q0 := h2 0 (by omega) 0 (by omega)
  have q1 := h2 1 (by omega) 0 (by omega)
  have q2 := h2 0 (by omega) 1 (by omega)
  have q3 := h2 1 (by omega) 1 (by omega)
  simp [sw] at q0 q1 q2 q3
  match i, hi4 with
  | 0, _ => simpa using q0
  | 1, _ => simpa using q1
  | 2, _ => simpa using q2
  | 3, _ => simpa using q3
theorem four_wds4 : Wds [4613937818241073152, 4607182418800017408, 4616189618054758400, 4611686018427387904] := by
  intro b hb
  simp at hb
  omega

/-- Is there more of a matrix than is looked at? -/
def greatB (n : Nat) (r k : Int) : Bool := decide (1000 < n) || decide (20 < r) || decide (20 < k)
theorem great_any (A : Option Addr) (n c : Nat) (off r k ld : Int) (w : World) : Calls Try.prog 13 #[mat A n c off r k ld] w fun e w' => e = .returned (.bool (greatB n r k)) ∧ Below w.heap.size w w' := by
  have hbel := fun (o : Obj) => (Below.refl w.heap.size w).alloc (Nat.le_refl _) o
  have e0 : decide ((1000 : Int) < (n : Int)) = decide (1000 < n) := decide_eq_decide.2 (by omega)
  unfold mat greatB
  by_cases h1 : (1000 : Int) < (n : Int)
  · have h2 : decide (1000 < n) = true := by simp; omega
    rw [h2]
    go_enter Try.func13, Try.ntmps13
    go_wp2_with fail
    go_ret
    exact ⟨by simp, hbel _⟩
  · have h2 : decide (1000 < n) = false := by simp; omega
    rw [h2]
    by_cases h3 : 20 < r
    · go_enter Try.func13, Try.ntmps13
      go_wp2_with fail
      go_ret
      exact ⟨by simp <;> omega, hbel _⟩
    · go_enter Try.func13, Try.ntmps13
      go_wp2_with fail
      go_ret
      exact ⟨by simp <;> omega, hbel _⟩
end Go.Proofs.Ytlhdcajamempoaa
/-
Take: rows that change places in an order. Conditions: as each says.
-/
set_option linter.unusedVariables false
namespace Go.Proofs.Ytlhdcajamempoaa
open Go.RowKit
attribute [local go_sem ↓] Go.wp_at_zero Go.wp_at_succ

/-- Is each from its own place to r - 1? -/
def OrdOk (r : Int) (zs : List Int) (k : Nat) : Prop := ∀ i (h : i < zs.length), i < k → (i : Int) ≤ zs[i] ∧ zs[i] < r
/-- The answer of takes. -/
def TakesI (n : Nat) (off r k ld : Int) (zs : List Int) (e : Int) : Prop :=
  (matB n off r k ld = false ∧ e = 1) ∨ (matB n off r k ld = true ∧ r < zs.length ∧ e = 3) ∨ (matB n off r k ld = true ∧ (zs.length : Int) ≤ r ∧ ((e = 0 ∧ OrdOk r zs zs.length) ∨ (e = 1 ∧ ¬ OrdOk r zs zs.length)))

/-- The row that stands at a when the first k changes of the order have been made. -/
def prm (zs : List Int) : Nat → Nat → Nat
  | 0, a => a
  | k + 1, a => prm zs k (sw k (zs.getD k 0).toNat a)
theorem prm_lt {zs : List Int} {R : Nat} : ∀ {k : Nat}, OrdOk R zs k → k ≤ zs.length → ∀ {a : Nat}, a < R → prm zs k a < R
  | 0, _, _, a, ha => ha
  | k + 1, h, hk, a, ha => by
    have h1 := h k (by omega) (by omega)
    have e : zs.getD k 0 = zs[k] := by simp [List.getD, show k < zs.length by omega]
    refine prm_lt (k := k) (fun i hi hik => h i hi (by omega)) (by omega) (sw_lt (by omega) (by rw [e]; omega) ha)

theorem Img.step {l m m' : List Nat} {o R C L i j : Nat} {zs : List Int} {q : Nat} (h : Img l o R C L (fun a b => l.getD (o + prm zs q a + b * L) 0) m) (h' : Img m o R C L (fun a b => m.getD (o + sw i j a + b * L) 0) m') (hi : i < R) (hj : j < R) :
    Img l o R C L (fun a b => l.getD (o + prm zs q (sw i j a) + b * L) 0) m' :=
  (h.trans h').congr fun a ha b hb => h.2.1 _ (sw_lt hi hj ha) b hb

end Go.Proofs.Ytlhdcajamempoaa
/-
MoveBack. Conditions: as each says.
-/
set_option linter.unusedVariables false
namespace Go.Proofs.Ytlhdcajamempoaa
open Go.RowKit
attribute [local go_sem ↓] Go.wp_at_zero Go.wp_at_succ

theorem heldG6 {W w' : World} {G : List Nat} {b0 o0 b1 o1 b2 o2 b3 o3 b4 o4 b5 o5 : Nat} {v0 v1 v2 v3 v4 v5 : Value} {R : World → Prop} (h : W.cell? ⟨b0, o0, none⟩ = some v0 ∧ W.cell? ⟨b1, o1, none⟩ = some v1 ∧ W.cell? ⟨b2, o2, none⟩ = some v2 ∧ W.cell? ⟨b3, o3, none⟩ = some v3 ∧ W.cell? ⟨b4, o4, none⟩ = some v4 ∧ W.cell? ⟨b5, o5, none⟩ = some v5 ∧ R W) (hc : Chg G W w') (n0 : b0 ∉ G) (n1 : b1 ∉ G) (n2 : b2 ∉ G) (n3 : b3 ∉ G) (n4 : b4 ∉ G) (n5 : b5 ∉ G) (hR : R W → R w') :
    w'.cell? ⟨b0, o0, none⟩ = some v0 ∧ w'.cell? ⟨b1, o1, none⟩ = some v1 ∧ w'.cell? ⟨b2, o2, none⟩ = some v2 ∧ w'.cell? ⟨b3, o3, none⟩ = some v3 ∧ w'.cell? ⟨b4, o4, none⟩ = some v4 ∧ w'.cell? ⟨b5, o5, none⟩ = some v5 ∧ R w' :=
  ⟨hc.cell n0 h.1, hc.cell n1 h.2.1, hc.cell n2 h.2.2.1, hc.cell n3 h.2.2.2.1, hc.cell n4 h.2.2.2.2.1, hc.cell n5 h.2.2.2.2.2.1, hR h.2.2.2.2.2.2⟩
theorem row_lt {w : World} {B : Option Addr} {xs : List Value} (h : Row w B xs) (hne : xs ≠ []) : ∀ b x, B = some ⟨b, x, none⟩ → b < w.heap.size := by
  intro b x e
  rcases h with h | ⟨b', o', e', hc⟩
  · exact (hne h).elim
  · rw [e] at e'
    injection e' with e'
    injection e' with e1 e2 e3
    subst e1
    cases xs with
    | nil => exact (hne rfl).elim
    | cons v xs => exact block_lt (hc 0 v rfl)
theorem i64s_ne {zs : List Int} (h : zs ≠ []) : i64s zs ≠ [] := by
  cases zs with
  | nil => exact (h rfl).elim
  | cons a b => simp [i64s]

end Go.Proofs.Ytlhdcajamempoaa
/-
Alone, Long, List, Write: the document's vectors. Conditions: as each says.
-/
set_option linter.unusedVariables false
namespace Go.Proofs.Ytlhdcajamempoaa
open Go.RowKit
attribute [local go_sem ↓] Go.wp_at_zero Go.wp_at_succ

theorem ralone_some (a : Addr) (c : Nat) (l : List Nat) (off k inc : Int) (w : World) (hA : Row w (some a) (f64s l)) (hl : l.length ≤ 1048576) :
    Calls Try.prog 16 #[vec (some a) l.length c off k inc] w fun e w' => ∃ g c', e = .returned (vec (some ⟨g, 0, none⟩) l.length c' off k inc) ∧ Own w' g l ∧ w.heap.size ≤ g ∧ l.length ≤ c' ∧ c' < 9223372036854775808 ∧ Below w.heap.size w w' := by
  obtain ⟨i0, hi, hz0, hz1, hz2⟩ := fi0
  have HA := Lib.hid hA
  clear hA
  unfold vec
  go_enter Try.func16, Try.ntmps16
  go_wp2_with (at_builtin; refine wpList_append_own _ rfl _ _ 24 rfl (w.heap.size + 1 + 1) 28 i0 (.float .f64 0) 1 8 Try.underlying24 hi hz0 hz1 hz2 rfl (by decide) _ _ _ rfl (own_empty_ _ _ (by simp)) a l.length c (f64s l) rfl (by simp [f64s]) ?c1 (one_cells l) ?c3 ?c4 ?c5 ?_)
  case c1 => exact row_add (HA.out.below ((((Below.refl _ _).alloc (Nat.le_refl _) _).alloc (by simp) _).alloc (by simp; omega) _))
  case c3 => unfold maxLen; omega
  case c4 => omega
  case c5 => simp
  intro v' w' hown hgrow hne
  obtain ⟨g, c', rfl, hg, hc, hm, ho⟩ := own_of hown hne rfl
  have hO : Only (w.heap.size + 1 + 1) (((w.alloc (.cells #[.slice (some a) l.length c, .int .i64 off, .int .i64 k, .int .i64 inc] 32)).alloc (.cells #[.slice none 0 0, .int .i64 0, .int .i64 0, .int .i64 0] 32)).alloc (.cells #[] 28)) w' := hgrow
  have HB := Lib.hid (((((Below.refl w.heap.size w).alloc (Nat.le_refl _) (.cells #[.slice (some a) l.length c, .int .i64 off, .int .i64 k, .int .i64 inc] 32)).alloc (by simp) (.cells #[.slice none 0 0, .int .i64 0, .int .i64 0, .int .i64 0] 32)).alloc (by simp; omega) (.cells #[] 28)).grown hgrow (by simp; omega) (fun k hk => by simp [Value.ownBlock] at hk; omega))
  have H0 := Lib.hid (hO.blk (by omega) (((Blk.new w 32 #[.slice (some a) l.length c, .int .i64 off, .int .i64 k, .int .i64 inc]).alloc (.cells #[.slice none 0 0, .int .i64 0, .int .i64 0, .int .i64 0] 32)).alloc (.cells #[] 28)))
  have H1 := Lib.hid (hO.blk (by omega) ((Blk.new_ (w.alloc (.cells #[.slice (some a) l.length c, .int .i64 off, .int .i64 k, .int .i64 inc] 32)) 32 #[.slice none 0 0, .int .i64 0, .int .i64 0, .int .i64 0] (w.heap.size + 1) (by simp)).alloc (.cells #[] 28)))
  have h2 : Blk (w'.setCell ⟨w.heap.size, 0, none⟩ (.slice (some ⟨g, 0, none⟩) l.length c')) w.heap.size 32 #[.slice (some ⟨g, 0, none⟩) l.length c', .int .i64 off, .int .i64 k, .int .i64 inc] := by simpa using H0.out.set_ 0 (.slice (some ⟨g, 0, none⟩) l.length c')
  have H2 := Lib.hid h2
  have H3 := Lib.hid (H1.out.other (p := ⟨w.heap.size, 0, none⟩) (by simp) (.slice (some ⟨g, 0, none⟩) l.length c'))
  have HO2 := Lib.hid (ho.other (p := ⟨w.heap.size, 0, none⟩) (by simp; omega) (.slice (some ⟨g, 0, none⟩) l.length c'))
  have HB2 := Lib.hid (HB.out.setCell (p := ⟨w.heap.size, 0, none⟩) (by simp) (.slice (some ⟨g, 0, none⟩) l.length c'))
  clear ho hgrow hown hO h2
  obtain ⟨k0, k1, k2, k3⟩ := cells4w H0.out
  obtain ⟨f0, _, _, _⟩ := frozen4w H0.out
  go_upto_region 2 with fail
  generalize w'.setCell ⟨w.heap.size, 0, none⟩ (.slice (some ⟨g, 0, none⟩) l.length c') = W2 at *
  clear k0 k1 k2 k3 f0
  obtain ⟨k0, k1, k2, k3⟩ := cells4w H2.out
  obtain ⟨z0, z1, z2, z3⟩ := cells4w H3.out
  obtain ⟨y0, y1, y2, y3⟩ := frozen4w H3.out
  have HSt := Lib.hid (H3.out.store4v (.slice (some ⟨g, 0, none⟩) l.length c') (.int .i64 off) (.int .i64 k) (.int .i64 inc))
  have HBe := Lib.hid (below_sets4 HB2.out (show w.heap.size ≤ w.heap.size + 1 by omega) (.slice (some ⟨g, 0, none⟩) l.length c') (.int .i64 off) (.int .i64 k) (.int .i64 inc))
  have HOw := Lib.hid (show Own ((((W2.setCell ⟨w.heap.size + 1, 0, none⟩ (.slice (some ⟨g, 0, none⟩) l.length c')).setCell ⟨w.heap.size + 1, 1, none⟩ (.int .i64 off)).setCell ⟨w.heap.size + 1, 2, none⟩ (.int .i64 k)).setCell ⟨w.heap.size + 1, 3, none⟩ (.int .i64 inc)) g l from
    (((HO2.out.other (p := ⟨w.heap.size + 1, 0, none⟩) (by simp; omega) (.slice (some ⟨g, 0, none⟩) l.length c')).other (p := ⟨w.heap.size + 1, 1, none⟩) (by simp; omega) (.int .i64 off)).other (p := ⟨w.heap.size + 1, 2, none⟩) (by simp; omega) (.int .i64 k)).other (p := ⟨w.heap.size + 1, 3, none⟩) (by simp; omega) (.int .i64 inc))
  go_wp2_with fail
  obtain ⟨j0, j1, j2, j3⟩ := cells4w HSt.out
  exact bodyPost_ret (v := .agg #[.slice (some ⟨g, 0, none⟩) l.length c', .int .i64 off, .int .i64 k, .int .i64 inc]) (by simp [results, Try.results16, go_sem, j0, j1, j2, j3]) rfl ⟨g, c', rfl, HOw.out, by omega, by omega, hm, HBe.out⟩

theorem ralone_nil (c : Nat) (off k inc : Int) (w : World) :
    Calls Try.prog 16 #[vec none 0 c off k inc] w fun e w' => ∃ g c', e = .returned (vec (some ⟨g, 0, none⟩) 0 c' off k inc) ∧ Own w' g [] ∧ w.heap.size ≤ g ∧ 0 ≤ c' ∧ c' < 9223372036854775808 ∧ Below w.heap.size w w' := by
  unfold vec
  go_enter Try.func16, Try.ntmps16
  go_wp2_with (at_builtin; refine wpList_append_nil _ rfl _ _ rfl rfl _ _ rfl rfl ?_)
  intro w' g c' hw' hg hc'
  have hm : c' < 9223372036854775808 := by omega
  have HB := Lib.hid (show Below w.heap.size w w' by rw [hw']; exact (((Below.refl w.heap.size w).alloc (Nat.le_refl _) (.cells #[.slice none 0 c, .int .i64 off, .int .i64 k, .int .i64 inc] 32)).alloc (by simp) (.cells #[.slice none 0 0, .int .i64 0, .int .i64 0, .int .i64 0] 32)).alloc (by simp; omega) (.cells #[] 28))
  have H0 := Lib.hid (show Blk w' w.heap.size 32 #[.slice none 0 c, .int .i64 off, .int .i64 k, .int .i64 inc] by rw [hw']; exact ((Blk.new w 32 #[.slice none 0 c, .int .i64 off, .int .i64 k, .int .i64 inc]).alloc (.cells #[.slice none 0 0, .int .i64 0, .int .i64 0, .int .i64 0] 32)).alloc (.cells #[] 28))
  have H1 := Lib.hid (show Blk w' (w.heap.size + 1) 32 #[.slice none 0 0, .int .i64 0, .int .i64 0, .int .i64 0] by rw [hw']; exact (Blk.new_ (w.alloc (.cells #[.slice none 0 c, .int .i64 off, .int .i64 k, .int .i64 inc] 32)) 32 #[.slice none 0 0, .int .i64 0, .int .i64 0, .int .i64 0] (w.heap.size + 1) (by simp)).alloc (.cells #[] 28))
  have ho : Own w' g [] := by rw [hw']; exact ⟨#[], Blk.new_ _ _ _ _ (by simp; omega), rfl⟩
  have hg2 : w.heap.size + 1 + 1 ≤ g := by omega
  have h2 : Blk (w'.setCell ⟨w.heap.size, 0, none⟩ (.slice (some ⟨g, 0, none⟩) 0 c')) w.heap.size 32 #[.slice (some ⟨g, 0, none⟩) 0 c', .int .i64 off, .int .i64 k, .int .i64 inc] := by simpa using H0.out.set_ 0 (.slice (some ⟨g, 0, none⟩) 0 c')
  have H2 := Lib.hid h2
  have H3 := Lib.hid (H1.out.other (p := ⟨w.heap.size, 0, none⟩) (by simp) (.slice (some ⟨g, 0, none⟩) 0 c'))
  have HO2 := Lib.hid (ho.other (p := ⟨w.heap.size, 0, none⟩) (by simp; omega) (.slice (some ⟨g, 0, none⟩) 0 c'))
  have HB2 := Lib.hid (HB.out.setCell (p := ⟨w.heap.size, 0, none⟩) (by simp) (.slice (some ⟨g, 0, none⟩) 0 c'))
  clear hw' hg hc' ho h2
  obtain ⟨k0, k1, k2, k3⟩ := cells4w H0.out
  obtain ⟨f0, _, _, _⟩ := frozen4w H0.out
  go_upto_region 2 with fail
  generalize w'.setCell ⟨w.heap.size, 0, none⟩ (.slice (some ⟨g, 0, none⟩) 0 c') = W2 at *
  clear k0 k1 k2 k3 f0
  obtain ⟨k0, k1, k2, k3⟩ := cells4w H2.out
  obtain ⟨z0, z1, z2, z3⟩ := cells4w H3.out
  obtain ⟨y0, y1, y2, y3⟩ := frozen4w H3.out
  have HSt := Lib.hid (H3.out.store4v (.slice (some ⟨g, 0, none⟩) 0 c') (.int .i64 off) (.int .i64 k) (.int .i64 inc))
  have HBe := Lib.hid (below_sets4 HB2.out (show w.heap.size ≤ w.heap.size + 1 by omega) (.slice (some ⟨g, 0, none⟩) 0 c') (.int .i64 off) (.int .i64 k) (.int .i64 inc))
  have HOw := Lib.hid (show Own ((((W2.setCell ⟨w.heap.size + 1, 0, none⟩ (.slice (some ⟨g, 0, none⟩) 0 c')).setCell ⟨w.heap.size + 1, 1, none⟩ (.int .i64 off)).setCell ⟨w.heap.size + 1, 2, none⟩ (.int .i64 k)).setCell ⟨w.heap.size + 1, 3, none⟩ (.int .i64 inc)) g [] from
    (((HO2.out.other (p := ⟨w.heap.size + 1, 0, none⟩) (by simp; omega) (.slice (some ⟨g, 0, none⟩) 0 c')).other (p := ⟨w.heap.size + 1, 1, none⟩) (by simp; omega) (.int .i64 off)).other (p := ⟨w.heap.size + 1, 2, none⟩) (by simp; omega) (.int .i64 k)).other (p := ⟨w.heap.size + 1, 3, none⟩) (by simp; omega) (.int .i64 inc))
  go_wp2_with fail
  obtain ⟨j0, j1, j2, j3⟩ := cells4w HSt.out
  exact bodyPost_ret (v := .agg #[.slice (some ⟨g, 0, none⟩) 0 c', .int .i64 off, .int .i64 k, .int .i64 inc]) (by simp [results, Try.results16, go_sem, j0, j1, j2, j3]) rfl ⟨g, c', rfl, HOw.out, by omega, by omega, hm, HBe.out⟩

theorem ralone_any (A : Option Addr) (c : Nat) (l : List Nat) (off k inc : Int) (w : World) (hA : Row w A (f64s l)) (hl : l.length ≤ 1048576) :
    Calls Try.prog 16 #[vec A l.length c off k inc] w fun e w' => ∃ g c', e = .returned (vec (some ⟨g, 0, none⟩) l.length c' off k inc) ∧ Own w' g l ∧ w.heap.size ≤ g ∧ l.length ≤ c' ∧ c' < 9223372036854775808 ∧ Below w.heap.size w w' := by
  cases A with
  | some a => exact ralone_some a c l off k inc w hA hl
  | none =>
    rcases hA with h | ⟨b, o, h, _⟩
    · obtain rfl : l = [] := by simpa [f64s] using h
      exact ralone_nil c off k inc w
    · cases h

/-- Is there more of a vector than is looked at? -/
def longB (n : Nat) (k : Int) : Bool := decide (1000 < n) || decide (60 < k)
theorem long_any (A : Option Addr) (n c : Nat) (off k inc : Int) (w : World) : Calls Try.prog 14 #[vec A n c off k inc] w fun e w' => e = .returned (.bool (longB n k)) ∧ Below w.heap.size w w' := by
  have hbel := fun (o : Obj) => (Below.refl w.heap.size w).alloc (Nat.le_refl _) o
  unfold vec longB
  by_cases h1 : (1000 : Int) < (n : Int)
  · have h2 : decide (1000 < n) = true := by simp; omega
    rw [h2]
    go_enter Try.func14, Try.ntmps14
    go_wp2_with fail
    go_ret
    exact ⟨by simp, hbel _⟩
  · have h2 : decide (1000 < n) = false := by simp; omega
    rw [h2]
    go_enter Try.func14, Try.ntmps14
    go_wp2_with fail
    go_ret
    exact ⟨by simp <;> omega, hbel _⟩

end Go.Proofs.Ytlhdcajamempoaa
/-
The document's Pair. Conditions: as each says.
-/
set_option linter.unusedVariables false
namespace Go.Proofs.Ytlhdcajamempoaa
open Go.RowKit
attribute [local go_sem ↓] Go.wp_at_zero Go.wp_at_succ

theorem wrap4 {o o' a a' P Q : Nat} (hP : P < 1048576) (hQ : Q < 1048576) (h : o + a = P) (h' : o' + a' = Q) : wrap64 (a : Int) = (a : Int) ∧ wrap64 (a' : Int) = (a' : Int) ∧ wrap64 (P : Int) = (P : Int) ∧ wrap64 (Q : Int) = (Q : Int) :=
  ⟨wrap_id (by unfold I64; omega), wrap_id (by unfold I64; omega), wrap_id (by unfold I64; omega), wrap_id (by unfold I64; omega)⟩
end Go.Proofs.Ytlhdcajamempoaa
