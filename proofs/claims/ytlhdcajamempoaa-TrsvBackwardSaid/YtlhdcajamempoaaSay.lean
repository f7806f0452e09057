/-
Trsv: the same numbers, the same solution; the law's example. Conditions: as each says.
-/
import Derived.Test.YtlhdcajamempoaaZTrF
import Derived.Test.YtlhdcajamempoaaSaf
import Derived.Test.YtlhdcajamempoaaZVwC
import Derived.Test.YtlhdcajamempoaaSag
import Derived.Test.YtlhdcajamempoaaSan
set_option linter.unusedVariables false
set_option linter.unusedSimpArgs false
set_option linter.unnecessarySimpa false
namespace Go.Proofs.Ytlhdcajamempoaa
open Go.RowKit
attribute [local go_sem ↓] Go.wp_at_zero Go.wp_at_succ

/-- The same numbers, the same solution. -/
theorem TrS.agree {kd n : Nat} {a a' : Nat → Nat → Nat} {x x' : Nat → Nat} {E : Nat → Nat → Nat} {F : Nat → Nat} (hk : kd = 1 ∨ kd = 2 ∨ kd = 3 ∨ kd = 4) (ha : ∀ p, p < n → ∀ q, q < n → a p q = a' p q) (hx : ∀ p, p < n → x p = x' p) (h : TrS kd n a x E F) : TrS kd n a' x' E F :=
  ⟨fun p hp => by rw [h.zero p hp, hx p hp], fun p hp t ht => by rw [h.step p hp t ht, ha p hp _ (trO_early hk hp ht).1], fun p hp => by rw [h.last p hp, ha p hp p hp]⟩
theorem trHZ_agree {kd R : Nat} {f f' : Nat → Nat → Nat} (h : ∀ p, p < R → ∀ q, q < R → f p q = f' p q) : trHZ kd f R = trHZ kd f' R := by
  unfold trHZ
  rw [Bool.eq_iff_iff, List.any_eq_true, List.any_eq_true]
  have e : ∀ i, i < R → trV kd f i i = trV kd f' i i := fun i hi => by unfold trV; rw [h i hi i hi]
  constructor <;> rintro ⟨i, hi, hz⟩ <;> refine ⟨i, hi, ?_⟩
  · rw [← e i (List.mem_range.1 hi)]; exact hz
  · rw [e i (List.mem_range.1 hi)]; exact hz
theorem trV_agree {kd R : Nat} {f f' : Nat → Nat → Nat} (h : ∀ p, p < R → ∀ q, q < R → f p q = f' p q) : ∀ p, p < R → ∀ q, q < R → trV kd f p q = trV kd f' p q := fun p hp q hq => by unfold trV; rw [h p hp q hq, h q hq p hp]
theorem trSum_agree {kd R : Nat} {f f' : Nat → Nat → Nat} {X : Nat → Nat} (h : ∀ p, p < R → ∀ q, q < R → f p q = f' p q) {i : Nat} (hi : i < R) : ∀ k, k ≤ R → trSum kd f X i k = trSum kd f' X i k
  | 0, _ => rfl
  | k + 1, hk => by
    show (if trT kd i k = true then _ else _) = (if trT kd i k = true then _ else _)
    rw [trSum_agree h hi k (by omega), trV_agree h i hi k (by omega)]
theorem MxC.of_row {w : World} {A : Option Addr} {l : List Nat} {n o R L : Nat} (h : Row w A (f64s l)) (hl : l.length = n) (hmr : R = 0 ∨ R = 0 ∨ o + (R - 1) * L + (R - 1) < n) : MxC w A o R L (fun i k => l.getD (o + i + k * L) 0) := fun i hi k hk => by
  have hP : o + i + k * L < l.length := by rw [hl]; exact tr_lt hmr hi hk
  obtain ⟨b, x, e, _, hc⟩ := h.at_ (f64s_get l _ hP)
  exact ⟨b, x, e, by show w.cell? _ = some (.float .f64 (l.getD (o + i + k * L) 0)); rw [getD_of_lt hP]; exact hc⟩
def exT1 : List Nat := [4616189618054758400, 4620693217682128896]
def exT2 : List Nat := [4611686018427387904, 4607182418800017408, 0, 4616189618054758400]
def exT3 : List Nat := [4611686018427387904, 0, 4607182418800017408, 4616189618054758400]
def exT4 : List Nat := [4607182418800017408, 4611686018427387904]
theorem exT1_wds : Wds exT1 := by intro b hb; simp [exT1] at hb; omega
theorem exT2_wds : Wds exT2 := by intro b hb; simp [exT2] at hb; omega
theorem exT3_wds : Wds exT3 := by intro b hb; simp [exT3] at hb; omega
theorem exT4_wds : Wds exT4 := by intro b hb; simp [exT4] at hb; omega
/-- The example's solution. -/
theorem ex_trs {E : Nat → Nat → Nat} {F : Nat → Nat} (h : TrS 2 2 (trV 2 (fun i k => exT3.getD (0 + i + k * 2) 0)) (fun p => exT1.getD (0 + p * 1) 0) E F) : F 0 = 4607182418800017408 ∧ F 1 = 4611686018427387904 := by
  have h1 : F 1 = fbin .quo (E 1 0) (trV 2 (fun i k => exT3.getD (0 + i + k * 2) 0) 1 1) := h.last 1 (by omega)
  rw [h.zero 1 (by omega)] at h1
  have h2 : F 1 = 4611686018427387904 := h1.trans (by decide +kernel)
  have h3 : E 0 1 = fbin .sub (E 0 0) (fbin .mul (trV 2 (fun i k => exT3.getD (0 + i + k * 2) 0) 0 1) (F 1)) := h.step 0 (by omega) 0 (by decide)
  rw [h.zero 0 (by omega), h2] at h3
  have h4 : E 0 1 = 4611686018427387904 := h3.trans (by decide +kernel)
  have h5 : F 0 = fbin .quo (E 0 1) (trV 2 (fun i k => exT3.getD (0 + i + k * 2) 0) 0 0) := h.last 0 (by omega)
  rw [h4] at h5
  exact ⟨h5.trans (by decide +kernel), h2⟩
theorem ex_trl {F : Nat → Nat} {y : List Nat} (h0 : F 0 = 4607182418800017408) (h1 : F 1 = 4611686018427387904) (h : TrL exT1 0 1 2 F y) : y = exT4 := by
  refine ext_getD h.1 fun x hx => ?_
  have hx2 : x < 2 := by have := h.1; change y.length = 2 at this; omega
  match x, hx2 with
  | 0, _ => have := h.2.1 0 (by omega); rw [h0] at this; exact this.eq_of (by decide)
  | 1, _ => have := h.2.1 1 (by omega); rw [h1] at this; exact this.eq_of (by decide)

set_option maxHeartbeats 2000000 in
theorem awake9_any (w : World) : Calls Try.prog 12 #[] w fun e w' => e = .returned (.bool true) ∧ Below w.heap.size w w' := by
  have z0 : I64 0 := by unfold I64; omega
  have z1 : I64 1 := by unfold I64; omega
  have z2 : I64 2 := by unfold I64; omega
  have HBd := Lib.hid (fun W => show Calls Try.prog 17 #[.int .i64 0, .agg #[.slice none 0 0, .int .i64 0, .int .i64 0, .int .i64 0, .int .i64 0], .agg #[.slice none 0 0, .int .i64 0, .int .i64 0, .int .i64 0]] W fun e w' => e = .returned (.int .i64 1) ∧ Below W.heap.size W w' from
    trsv_bad 0 none 0 0 0 0 0 0 none 0 0 0 0 0 W (by omega) z0 z0 z0 z0 (by omega) z0 z0 z0 rfl)
  have HDn := Lib.hid (fun W (A : Option Addr) (hA : Row W A (f64s exT2)) => show Calls Try.prog 8 #[.int .i64 2, .int .i64 2, .slice A 4 4] W fun e w' => ∃ g, e = .returned (.agg #[.slice (some ⟨g, 0, none⟩) 4 4, .int .i64 0, .int .i64 2, .int .i64 2, .int .i64 2]) ∧ Own w' g exT3 ∧ W.heap.size ≤ g ∧ Below W.heap.size W w' from by
    refine (dense_blk A 4 exT2 2 2 W (by omega) (by omega) hA (by decide) (by decide)).mono ?_
    rintro e w' ⟨g', M, rfl, hd, hB, hg, hb⟩
    obtain rfl := dense_ex hd
    exact ⟨g', rfl, own_blk hB, hg, hb⟩)
  have HSo := Lib.hid (fun (g gx : Nat) W (hO : Own W g exT3) (hX : Own W gx exT1) (h1 : gx ≠ g) => show Calls Try.prog 17 #[.int .i64 2, .agg #[.slice (some ⟨g, 0, none⟩) 4 4, .int .i64 0, .int .i64 2, .int .i64 2, .int .i64 2], .agg #[.slice (some ⟨gx, 0, none⟩) 2 2, .int .i64 0, .int .i64 2, .int .i64 1]] W fun e w' => e = .returned (.int .i64 0) ∧ Own w' gx exT4 ∧ Chg [gx] W w' from by
    obtain ⟨E, F, hS⟩ := trS_exists 2 2 (trV 2 (fun i k => exT3.getD (0 + i + k * 2) 0)) (fun p => exT1.getD (0 + p * 1) 0) (by omega)
    obtain ⟨hF0, hF1⟩ := ex_trs hS
    have hM := MxC.of_row (n := 4) (o := 0) (R := 2) (L := 2) hO.row rfl (by omega)
    refine (trsv_ok 2 (by omega) (some ⟨g, 0, none⟩) 4 4 0 2 2 (fun i k => exT3.getD (0 + i + k * 2) 0) gx 2 2 0 1 exT1 E F W (by omega) z2 (by omega) (by omega) (by omega) (by omega) z0 (by omega) z0 z1 (by omega) (by omega)
      (fun W' hb => trmeets_far gx 2 2 exT1 0 2 1 g 4 4 exT3 0 2 2 2 W' (hX.nxt hb) (hO.nxt hb) h1 rfl rfl (by omega) (by omega) z0 z2 z1 z0 z2 z2 z2)
      hM (by decide +kernel) ⟨by omega, by omega, z2, by omega, by omega, by omega, by omega, rfl, by omega, by omega, fun i k => tr_wds exT3_wds _, fun q hq => by omega, fun W' q v hq h i hi k hk => by
        obtain ⟨b, x, e, hc⟩ := h i hi k hk
        injection e with e; injection e with e1 e2
        subst e1
        exact ⟨g, x, by rw [e2], (cell_set (fun e => h1 e.symm) _).trans hc⟩, hX.lt⟩ hS hX exT1_wds).mono ?_
    rintro e w' ⟨rfl, y, k1, k2, k3⟩
    rw [ex_trl hF0 hF1 k1] at k2
    exact ⟨rfl, k2, k3⟩)
  have HAl := Lib.hid (fun (A B : Option Addr) (W : World) (h : Row W A (f64s exT4)) (h' : Row W B (f64s exT4)) => show Calls Try.prog 26 #[.slice A 2 2, .slice B 2 2] W fun e w' => e = .returned (.bool true) ∧ Below W.heap.size W w' from
    rall_any A B 2 2 exT4 exT4 W exT4_wds exT4_wds h h' (by decide) (Alike.refl _))
  have HB0 := Lib.hid ((Below.refl w.heap.size w))
  clear z0 z1 z2
  go_enter Try.func12, Try.ntmps12
  go_wp2_with fail
  refine (HBd.out _).mono ?_
  rintro e w1 ⟨rfl, hb⟩
  have HB1 := Lib.hid (below_nx HB0.out hb)
  clear hb
  go_wp2_with fail
  have HX1 := Lib.hid (own_blk (Blk.new w1 28 (f64s exT1).toArray))
  have HX2 := Lib.hid (HX1.out.nxt (below_one (o := (.cells (f64s exT2).toArray 28))))
  have HR2 := Lib.hid (own_blk (Blk.new_ (w1.alloc (.cells (f64s exT1).toArray 28)) 28 (f64s exT2).toArray (w1.heap.size + 1) (by simp))).row
  have HB2 := Lib.hid (below_al (below_al HB1.out (o := (.cells (f64s exT1).toArray 28))) (o := (.cells (f64s exT2).toArray 28)))
  refine (HDn.out _ _ HR2.out).mono ?_
  rintro e w2 ⟨g, rfl, hO, hg, hb⟩
  have HO3 := Lib.hid hO
  have HX3 := Lib.hid (HX2.out.nxt hb)
  have HB3 := Lib.hid (below_nx HB2.out hb)
  have hgx : w1.heap.size ≠ g := by simp at hg; omega
  clear hO hb hg
  go_wp2_with fail
  refine (HSo.out g _ _ HO3.out HX3.out hgx).mono ?_
  rintro e w3 ⟨rfl, hX, hc⟩
  have HX4 := Lib.hid hX
  have HB4 := Lib.hid (hc.below HB3.out HB3.out.size (by intro x hx; simp at hx; subst hx; exact HB1.out.size))
  clear hX hc
  go_wp2_with fail
  have HR4 := Lib.hid (HX4.out.nxt (below_one (o := (.cells (f64s exT4).toArray 28)))).row
  have HR5 := Lib.hid (own_blk (Blk.new w3 28 (f64s exT4).toArray)).row
  have HB5 := Lib.hid (below_al HB4.out (o := (.cells (f64s exT4).toArray 28)))
  refine (HAl.out _ _ _ HR4.out HR5.out).mono ?_
  rintro e w4 ⟨rfl, hb⟩
  have HB6 := Lib.hid (below_nx HB5.out hb)
  clear hb
  go_wp2_with fail
  go_ret
  exact ⟨rfl, HB6.out⟩

end Go.Proofs.Ytlhdcajamempoaa
/-
MoveVectors, the beginning: the two copies. Conditions: as each says.
-/
set_option linter.unusedVariables false
set_option linter.unusedSimpArgs false
set_option linter.unnecessarySimpa false
namespace Go.Proofs.Ytlhdcajamempoaa
open Go.RowKit
attribute [local go_sem ↓] Go.wp_at_zero Go.wp_at_succ

/-- Two results that have lists of their own. -/
def Twin (Z : Nat) (l l' : List Nat) (f f' : Nat → Nat → Value) (d1 d3 : Bool) (va vb : Value) (W : World) : Prop :=
  d1 = true → ∃ g c, va = f g c ∧ Own W g l ∧ Z ≤ g ∧ (d3 = true → ∃ g' c', vb = f' g' c' ∧ Own W g' l' ∧ Z ≤ g' ∧ g ≠ g')
section
variable {Z : Nat} {l l' : List Nat} {f f' : Nat → Nat → Value} {d1 d3 : Bool} {va vb : Value} {W W' : World}
theorem Twin.nxt (h : Twin Z l l' f f' d1 d3 va vb W) (hb : Below W.heap.size W W') : Twin Z l l' f f' d1 d3 va vb W' := fun e => by
  obtain ⟨g, c, h1, h2, h3, h4⟩ := h e
  refine ⟨g, c, h1, h2.nxt hb, h3, fun e' => ?_⟩
  obtain ⟨g', c', k1, k2, k3, k4⟩ := h4 e'
  exact ⟨g', c', k1, k2.nxt hb, k3, k4⟩
theorem own_ne {g p : Nat} {t : TypeId} {cs : Array Value} (h : Own W g l) (hB : Blk W p t cs) (ht : t ≠ 28) : g ≠ p := by
  rintro rfl
  obtain ⟨cs', hB', _⟩ := h
  unfold Blk at hB hB'
  rw [hB] at hB'
  injection hB' with hB'
  injection hB' with _ e _
  exact ht e
theorem own_far {g p : Nat} (h : Own W g l) (hb : ∀ k, k ≠ p → W'.heap[k]? = W.heap[k]?) (hne : g ≠ p) : Own W' g l := by
  obtain ⟨cs', hB', h2⟩ := h
  exact ⟨cs', (hb g hne).trans hB', h2⟩
theorem Twin.far {p : Nat} {t : TypeId} {cs : Array Value} (h : Twin Z l l' f f' d1 d3 va vb W) (hB : Blk W p t cs) (ht : t ≠ 28) (hb : ∀ k, k ≠ p → W'.heap[k]? = W.heap[k]?) : Twin Z l l' f f' d1 d3 va vb W' := fun e => by
  obtain ⟨g, c, h1, h2, h3, h4⟩ := h e
  refine ⟨g, c, h1, own_far h2 hb (own_ne h2 hB ht), h3, fun e' => ?_⟩
  obtain ⟨g', c', k1, k2, k3, k4⟩ := h4 e'
  exact ⟨g', c', k1, own_far k2 hb (own_ne k2 hB ht), k3, k4⟩
theorem Twin.first {g c : Nat} (ho : Own W g l) (hZ : Z ≤ g) (h3 : d3 = false) : Twin Z l l' f f' true d3 (f g c) vb W := fun _ => ⟨g, c, rfl, ho, hZ, fun e => by rw [h3] at e; cases e⟩
theorem Twin.second {g' c' : Nat} (h : Twin Z l l' f f' true false va vb W) (hb : Below W.heap.size W W') (ho : Own W' g' l') (hZ : Z ≤ g') (hg : W.heap.size ≤ g') : Twin Z l l' f f' true true va (f' g' c') W' := fun _ => by
  obtain ⟨g, c, h1, h2, h3, h4⟩ := h rfl
  exact ⟨g, c, h1, h2.nxt hb, h3, fun _ => ⟨g', c', rfl, ho, hZ, by have := h2.lt; omega⟩⟩
end
/-- The cells of a struct. -/
def cellsV : Value → Array Value
  | .agg cs => cs
  | _ => #[]
theorem Two.chg1 {w0 W : World} {t : TypeId} {z a a' b : Array Value} {da db sb : Bool} {va vb : Value} (h : Two w0 t z a b da db false sb va vb W) : Two w0 t z a' b da db false sb va vb W := h
theorem Two.chg2 {w0 W : World} {t : TypeId} {z a b b' : Array Value} {da db sa : Bool} {va vb : Value} (h : Two w0 t z a b da db sa false va vb W) : Two w0 t z a b' da db sa false va vb W := h

/-- The arguments' boxes, the copies' boxes, and the copies' lists. -/
def Begun (w : World) (l l' : List Nat) (n c : Nat) (off k inc : Int) (n' c' : Nat) (off' k' inc' : Int) (A A' : Option Addr) (p q : Nat) (W : World) : Prop :=
  ∃ g1 c1 g2 c2, Blk W w.heap.size 32 #[.slice A n c, .int .i64 off, .int .i64 k, .int .i64 inc] ∧ Blk W (w.heap.size + 1) 32 #[.slice A' n' c', .int .i64 off', .int .i64 k', .int .i64 inc'] ∧
    Blk W p 32 #[.slice (some ⟨g1, 0, none⟩) n c1, .int .i64 off, .int .i64 k, .int .i64 inc] ∧ Blk W q 32 #[.slice (some ⟨g2, 0, none⟩) n' c2, .int .i64 off', .int .i64 k', .int .i64 inc'] ∧
    Own W g1 l ∧ Own W g2 l' ∧ g1 ≠ g2 ∧ w.heap.size + 1 < g1 ∧ w.heap.size + 1 < g2 ∧ w.heap.size + 1 < p ∧ w.heap.size + 1 < q ∧ p ≠ q ∧ Below w.heap.size w W

end Go.Proofs.Ytlhdcajamempoaa
