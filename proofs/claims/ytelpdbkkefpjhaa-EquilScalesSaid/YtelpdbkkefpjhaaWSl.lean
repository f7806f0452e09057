/-
Two results that are made side by side, each with memory of its own. Conditions: as each says.
-/
import Derived.Test.YtelpdbkkefpjhaaWSj
import Derived.Test.YtelpdbkkefpjhaaWSk
set_option linter.unusedVariables false
set_option linter.unusedSimpArgs false
set_option linter.unnecessarySimpa false
namespace Go.Proofs.Ytelpdbkkefpjhaa
open Go.RowKit
attribute [local go_sem ↓] Go.wp_at_zero Go.wp_at_succ

/-- Block g is of floats, and they meet S. -/
def OwnS (W : World) (S : Array Value → Prop) (g : Nat) : Prop := ∃ cs : Array Value, Blk W g 45 cs ∧ S cs
section
variable {W W' : World} {S S' : Array Value → Prop} {g : Nat}
theorem OwnS.nxt (h : OwnS W S g) (hb : Below W.heap.size W W') : OwnS W' S g := by
  obtain ⟨cs, h1, h2⟩ := h
  exact ⟨cs, h1.nxt hb, h2⟩
theorem OwnS.lt (h : OwnS W S g) : g < W.heap.size := by
  obtain ⟨cs, h1, h2⟩ := h
  exact h1.lt
theorem OwnS.ne_ {p : Nat} {t : TypeId} {cs : Array Value} (h : OwnS W S g) (hB : Blk W p t cs) (ht : t ≠ 45) : g ≠ p := by
  rintro rfl
  obtain ⟨cs', hB', _⟩ := h
  unfold Blk at hB hB'
  rw [hB] at hB'
  injection hB' with hB'
  injection hB' with _ e _
  exact ht e
theorem OwnS.far {p : Nat} (h : OwnS W S g) (hb : ∀ k, k ≠ p → W'.heap[k]? = W.heap[k]?) (hne : g ≠ p) : OwnS W' S g := by
  obtain ⟨cs', hB', h2⟩ := h
  exact ⟨cs', (hb g hne).trans hB', h2⟩
end
/-- Two results, each with a block of its own. -/
def Twn (Z : Nat) (S S' : Array Value → Prop) (f f' : Nat → Nat → Value) (d1 d3 : Bool) (va vb : Value) (W : World) : Prop :=
  d1 = true → ∃ g c, va = f g c ∧ OwnS W S g ∧ Z ≤ g ∧ (d3 = true → ∃ g' c', vb = f' g' c' ∧ OwnS W S' g' ∧ Z ≤ g' ∧ g ≠ g')
section
variable {Z : Nat} {S S' : Array Value → Prop} {f f' : Nat → Nat → Value} {d1 d3 : Bool} {va vb : Value} {W W' : World}
theorem Twn.nxt (h : Twn Z S S' f f' d1 d3 va vb W) (hb : Below W.heap.size W W') : Twn Z S S' f f' d1 d3 va vb W' := fun e => by
  obtain ⟨g, c, h1, h2, h3, h4⟩ := h e
  refine ⟨g, c, h1, h2.nxt hb, h3, fun e' => ?_⟩
  obtain ⟨g', c', k1, k2, k3, k4⟩ := h4 e'
  exact ⟨g', c', k1, k2.nxt hb, k3, k4⟩
theorem Twn.far {p : Nat} {t : TypeId} {cs : Array Value} (h : Twn Z S S' f f' d1 d3 va vb W) (hB : Blk W p t cs) (ht : t ≠ 45) (hb : ∀ k, k ≠ p → W'.heap[k]? = W.heap[k]?) : Twn Z S S' f f' d1 d3 va vb W' := fun e => by
  obtain ⟨g, c, h1, h2, h3, h4⟩ := h e
  refine ⟨g, c, h1, h2.far hb (h2.ne_ hB ht), h3, fun e' => ?_⟩
  obtain ⟨g', c', k1, k2, k3, k4⟩ := h4 e'
  exact ⟨g', c', k1, k2.far hb (k2.ne_ hB ht), k3, k4⟩
theorem Twn.first {g c : Nat} (ho : OwnS W S g) (hZ : Z ≤ g) (h3 : d3 = false) : Twn Z S S' f f' true d3 (f g c) vb W := fun _ => ⟨g, c, rfl, ho, hZ, fun e => by rw [h3] at e; cases e⟩
theorem Twn.second {g' c' : Nat} (h : Twn Z S S' f f' true false va vb W) (hb : Below W.heap.size W W') (ho : OwnS W' S' g') (hZ : Z ≤ g') (hg : W.heap.size ≤ g') : Twn Z S S' f f' true true va (f' g' c') W' := fun _ => by
  obtain ⟨g, c, h1, h2, h3, h4⟩ := h rfl
  exact ⟨g, c, h1, h2.nxt hb, h3, fun _ => ⟨g', c', rfl, ho, hZ, by have := h2.lt; omega⟩⟩
end
end Go.Proofs.Ytelpdbkkefpjhaa
/-
MoveRows: what is between its two calls; how the lists and the tables fit. Conditions: as each says.
-/
set_option linter.unusedVariables false
set_option linter.unusedSimpArgs false
set_option linter.unnecessarySimpa false
namespace Go.Proofs.Ytelpdbkkefpjhaa
open Go.RowKit

/-- Two lists of the call's own, the one changed or not yet, and the other. -/
def Both (W0 : World) (l : List Nat) (F1 F2 : List Nat → Prop) (g1 g2 : Nat) (d3 d6 : Bool) (W : World) : Prop :=
  ∃ la lb, Own W g1 la ∧ Own W g2 lb ∧ (if d3 = true then F1 la else la = l) ∧ (if d6 = true then F2 lb else lb = l) ∧ Chg [g1, g2] W0 W
section
variable {W0 W W' : World} {l : List Nat} {F1 F2 : List Nat → Prop} {g1 g2 : Nat} {d3 d6 : Bool}
theorem Both.start (h1 : Own W g1 l) (h2 : Own W g2 l) (hc : Chg [g1, g2] W0 W) : Both W0 l F1 F2 g1 g2 false false W := ⟨l, l, h1, h2, rfl, rfl, hc⟩
theorem Both.first (h : Both W0 l F1 F2 g1 g2 false d6 W) (hne : g1 ≠ g2) {l' : List Nat} (ho : Own W' g1 l') (hF : F1 l') (hc : Chg [g1] W W') : Both W0 l F1 F2 g1 g2 true d6 W' := by
  obtain ⟨la, lb, h1, h2, h3, h4, h5⟩ := h
  exact ⟨l', lb, ho, hc.own (by simp; exact fun e => hne e.symm) h2, hF, h4, h5.trans (hc.mono (by simp))⟩
theorem Both.second (h : Both W0 l F1 F2 g1 g2 d3 false W) (hne : g1 ≠ g2) {l' : List Nat} (ho : Own W' g2 l') (hF : F2 l') (hc : Chg [g2] W W') : Both W0 l F1 F2 g1 g2 d3 true W' := by
  obtain ⟨la, lb, h1, h2, h3, h4, h5⟩ := h
  exact ⟨la, l', hc.own (by simp; exact hne) h1, ho, h3, hF, h5.trans (hc.mono (by simp))⟩
theorem Both.one (h : Both W0 l F1 F2 g1 g2 false d6 W) : Own W g1 l := by
  obtain ⟨la, lb, h1, h2, h3, h4, h5⟩ := h
  have h3 : la = l := h3
  subst h3; exact h1
theorem Both.two (h : Both W0 l F1 F2 g1 g2 d3 false W) : Own W g2 l := by
  obtain ⟨la, lb, h1, h2, h3, h4, h5⟩ := h
  have h4 : lb = l := h4
  subst h4; exact h2
end
theorem tab_get {l T : List Nat} {o R C L N a b : Nat} (h : Tab l o R C L N T) (hN : R * C = N) (ha : a < R) (hb : b < C) : T.getD (a * C + b) 0 = l.getD (o + a + b * L) 0 :=
  h.2 a b ha hb (by rw [← hN]; exact tab_lt ha hb)
end Go.Proofs.Ytelpdbkkefpjhaa
/-
Finite of a matrix, by the program and by the document; Clone of one that isn't right. Conditions: the matrix' list has at most 2^20 numbers.
-/
set_option linter.unusedVariables false
set_option linter.unusedSimpArgs false
set_option linter.unnecessarySimpa false
namespace Go.Proofs.Ytelpdbkkefpjhaa
open Go.RowKit
attribute [local go_sem ↓] Go.wp_at_zero Go.wp_at_succ

@[go_sem] theorem run_field_A (r k : Int) (g n c : Nat) (w : World) : (Instr.field 32 (.agg #[.int .i64 r, .int .i64 k, .slice (some ⟨g, 0, none⟩) n c]) 2).run Try.prog w = .ok (.slice (some ⟨g, 0, none⟩) n c) w := by kernel_rfl

/-- Are all the matrix' numbers finite? -/
def finsB (l : List Nat) (o R C L : Nat) : Bool := (List.range R).all fun a => (List.range C).all fun b => Fl.fin (l.getD (o + a + b * L) 0)
theorem finsB_iff (l : List Nat) (o R C L : Nat) : finsB l o R C L = true ↔ ∀ a, a < R → ∀ b, b < C → Fl.fin (l.getD (o + a + b * L) 0) = true := by
  unfold finsB
  simp [List.all_eq_true]
theorem fins_cols {l : List Nat} {o R C L : Nat} : (colsL l o R L C).all Fl.fin = finsB l o R C L := by
  rw [Bool.eq_iff_iff, finsB_iff, List.all_eq_true]
  constructor
  · intro h a ha b hb
    have hk : b * R + a < (colsL l o R L C).length := by
      rw [colsL_length]
      have : (b + 1) * R ≤ C * R := Nat.mul_le_mul_right _ hb
      rw [Nat.add_mul] at this; omega
    rw [← colsL_getD l o R L ha hb, getD_of_lt hk]
    exact h _ (List.getElem_mem hk)
  · intro h x hx
    obtain ⟨k, hk, rfl⟩ := List.mem_iff_getElem.1 hx
    have hk2 := hk
    rw [colsL_length] at hk2
    have hR : 0 < R := Nat.pos_of_ne_zero (by rintro rfl; simp at hk2)
    have hb : k / R < C := Nat.div_lt_of_lt_mul (by rw [Nat.mul_comm]; exact hk2)
    have he : k / R * R + k % R = k := by rw [Nat.mul_comm]; exact Nat.div_add_mod k R
    have h1 := colsL_getD l o R L (Nat.mod_lt k hR) hb
    rw [he, getD_of_lt hk] at h1
    rw [h1]
    exact h _ (Nat.mod_lt k hR) _ hb
theorem mfin_any (A : Option Addr) (n c : Nat) (l : List Nat) (o R C L N : Nat) (w : World) (hA : Row w A (f64s l)) (hW : Wds l) (hl : l.length = n) (hnc : n ≤ c) (hn : n < 1048576) (hb : o < 9223372036854775808 ∧ R < 9223372036854775808 ∧ C < 9223372036854775808 ∧ L < 9223372036854775808) (hN : R * C = N) (hL : 1 ≤ L) (hR : R ≤ L) (hr : R = 0 ∨ C = 0 ∨ o + (C - 1) * L + (R - 1) < n) :
    Calls Try.prog 24 #[mat A n c o R C L] w fun e w' => e = .returned (.bool (finsB l o R C L)) ∧ Below w.heap.size w w' := by
  have HG := Lib.hid (fun W => good_any A n c o R C L W (by omega) (by unfold I64; omega) (by unfold I64; omega) (by unfold I64; omega) (by unfold I64; omega))
  rw [mat_right hL hR hr] at HG
  have HNm := Lib.hid (fun W (hb' : Below w.heap.size w W) => numbers_any A n c l o R C L N W (hA.below hb') hl hnc hn hb hN hL hR hr)
  have HFi := Lib.hid (fun W (B : Option Addr) (d : Nat) (h : Row W B (f64s (colsL l o R L C))) => nfin_any B N d (colsL l o R L C) W h (colsL_wds hW o R L C) (by rw [colsL_length, Nat.mul_comm]; exact hN) (by have h9 := mat_size hR hr; rw [hN] at h9; exact Nat.lt_of_le_of_lt h9 hn))
  rw [fins_cols] at HFi
  generalize finsB l o R C L = x at *
  clear hA hW hl hnc hn hb hN hL hR hr
  unfold mat at *
  go_enter Try.func24, Try.ntmps24
  have HZ0 := Lib.hid (Blk.new w 24 #[.slice A n c, .int .i64 o, .int .i64 R, .int .i64 C, .int .i64 L])
  have HB0 := Lib.hid ((Below.refl w.heap.size w).alloc (Nat.le_refl _) (.cells #[.slice A n c, .int .i64 o, .int .i64 R, .int .i64 C, .int .i64 L] 24))
  go_wp2_with fail
  refine (HG.out _).mono ?_
  rintro e w1 ⟨rfl, hb⟩
  have HZ1 := Lib.hid (HZ0.out.nxt hb)
  have HB1 := Lib.hid (below_nx HB0.out hb)
  clear hb
  obtain ⟨c0, c1, c2, c3, c4⟩ := cells5 HZ1.out
  go_wp2_with fail
  refine (HNm.out _ HB1.out).mono ?_
  rintro e w2 ⟨B, dd, rfl, hrow, _, hb⟩
  have HRow := Lib.hid hrow
  have HB2 := Lib.hid (below_nx HB1.out hb)
  clear hb hrow c0 c1 c2 c3 c4
  go_wp2_with fail
  refine (HFi.out _ _ _ HRow.out).mono ?_
  rintro e w3 ⟨rfl, rfl⟩
  go_wp2_with fail
  go_ret
  exact ⟨rfl, HB2.out⟩
theorem clone_err (A : Option Addr) (n c : Nat) (off r k ld : Int) (w : World) (hn : n < 9223372036854775808) (ho : I64 off) (hr : I64 r) (hk : I64 k) (hi : I64 ld) (hgd : matB n off r k ld = false) :
    Calls Try.prog 37 #[mat A n c off r k ld] w fun e w' => e = .returned (.tuple #[mat none 0 0 0 0 0 0, .int .i64 1]) ∧ Below w.heap.size w w' := by
  have HG := Lib.hid (fun W => good_any A n c off r k ld W hn ho hr hk hi)
  rw [hgd] at HG
  clear hn ho hr hk hi hgd
  unfold mat at *
  go_enter Try.func37, Try.ntmps37
  have HE0 := Lib.hid (Blk.new_ (w.alloc (.cells #[.slice A n c, .int .i64 off, .int .i64 r, .int .i64 k, .int .i64 ld] 24)) 24 #[.slice none 0 0, .int .i64 0, .int .i64 0, .int .i64 0, .int .i64 0] (w.heap.size + 1) (by simp))
  have HB0 := Lib.hid (((Below.refl w.heap.size w).alloc (Nat.le_refl _) (.cells #[.slice A n c, .int .i64 off, .int .i64 r, .int .i64 k, .int .i64 ld] 24)).alloc (by simp) (.cells #[.slice none 0 0, .int .i64 0, .int .i64 0, .int .i64 0, .int .i64 0] 24))
  go_wp2_with fail
  refine (HG.out _).mono ?_
  rintro e w1 ⟨rfl, hb⟩
  have HE1 := Lib.hid (HE0.out.nxt hb)
  have HB1 := Lib.hid (below_nx HB0.out hb)
  clear hb
  obtain ⟨z0, z1, z2, z3, z4⟩ := cells5 HE1.out
  obtain ⟨y0, y1, y2, y3, y4⟩ := frozen5 HE1.out
  have HSt := Lib.hid (HE1.out.store5 (.slice none 0 0) (.int .i64 0) (.int .i64 0) (.int .i64 0) (.int .i64 0))
  have hzq : w.heap.size ≤ w.heap.size + 1 := Nat.le_succ _
  have HBe := Lib.hid (show Below w.heap.size w (((((w1.setCell ⟨w.heap.size + 1, 0, none⟩ (.slice none 0 0)).setCell ⟨w.heap.size + 1, 1, none⟩ (.int .i64 0)).setCell ⟨w.heap.size + 1, 2, none⟩ (.int .i64 0)).setCell ⟨w.heap.size + 1, 3, none⟩ (.int .i64 0)).setCell ⟨w.heap.size + 1, 4, none⟩ (.int .i64 0)) from
    (((((HB1.out.setCell (p := ⟨w.heap.size + 1, 0, none⟩) hzq (.slice none 0 0)).setCell (p := ⟨w.heap.size + 1, 1, none⟩) hzq (.int .i64 0)).setCell (p := ⟨w.heap.size + 1, 2, none⟩) hzq (.int .i64 0)).setCell (p := ⟨w.heap.size + 1, 3, none⟩) hzq (.int .i64 0)).setCell (p := ⟨w.heap.size + 1, 4, none⟩) hzq (.int .i64 0)))
  go_wp2_with fail
  obtain ⟨j0, j1, j2, j3, j4⟩ := cells5 HSt.out
  exact bodyPost_ret (v := .tuple #[.agg #[.slice none 0 0, .int .i64 0, .int .i64 0, .int .i64 0, .int .i64 0], .int .i64 1]) (by simp [results, Try.results37, go_sem, j0, j1, j2, j3, j4]) rfl ⟨rfl, HBe.out⟩
end Go.Proofs.Ytelpdbkkefpjhaa
