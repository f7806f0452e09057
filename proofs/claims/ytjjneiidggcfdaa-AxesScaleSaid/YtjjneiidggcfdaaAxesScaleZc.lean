/-
What the proof rests on: laws of floats, lists, memory and the walks of the functions. Conditions: as each says.
-/
import Derived.Test.YtjjneiidggcfdaaAxesScaleZb
import Derived.Below
import Derived.ChangeSame
import Derived.Laws.Cover2
import Derived.Test.YtjjneiidggcfdaaRows
import Derived.KernelRfl
import Derived.WalkKit
import Derived.Laws.Rows
import Derived.Deep.Draws
import Derived.Laws.OwnMore
import Derived.Lib.Hide
import Derived.Laws.FloatBits
import GoSem.Core.Float
import Derived.WalkLawsBesides
import Derived.Laws.BitsAllLaws
import Derived.WalkSpells
import Derived.LoopTactic
import Derived.Outline
import Derived.Laws.Externs
import Derived.Deep.QuietTactic
import Derived.BigQuiet
import Derived.RegionTactic
import Derived.Deep.Slices
import Derived.Deep.Fields
import Derived.Laws.FloatArith
import Derived.Deep.RegionHeld3
import Derived.Deep.DrawnRows
import Derived.Deep.DeepCutAuto
import Derived.Deep.CutBlock
import Derived.Deep.OwnRows
import Derived.IntWalk
import Derived.Deep.RegionWith
import Derived.Laws.AppendOwn
import Derived.LaidEqlPtr
import Derived.BigRegion
import Derived.Orders
import Derived.RowKit3
import Derived.Lib.BitFns
import Derived.Shelf.Abstract
set_option linter.unusedVariables false
namespace Go.Proofs.Ytjjneiidggcfdaa
open Go.RowKit
attribute [local go_sem ↓] Go.wp_at_zero Go.wp_at_succ

theorem tab_inj {C a b a' b' : Nat} (hb : b < C) (hb' : b' < C) (h : a * C + b = a' * C + b') : a = a' ∧ b = b' := by
  have h1 : (a * C + b) % C = b := by rw [Nat.mul_add_mod_self_right, Nat.mod_eq_of_lt hb]
  have h2 : (a' * C + b') % C = b' := by rw [Nat.mul_add_mod_self_right, Nat.mod_eq_of_lt hb']
  have e : b = b' := by rw [← h1, h, h2]
  subst e
  have hm : a * C = a' * C := by omega
  exact ⟨Nat.eq_of_mul_eq_mul_right (by omega) hm, rfl⟩
/-- The first q columns have changed rows i and k. -/
def Half (T : List Nat) (i k R C q : Nat) (T' : List Nat) : Prop := T'.length = T.length ∧ ∀ a, a < R → ∀ b, b < C → T'.getD (a * C + b) 0 = if b < q then T.getD (sw i k a * C + b) 0 else T.getD (a * C + b) 0
theorem Half.zero (T : List Nat) (i k R C : Nat) : Half T i k R C 0 T := ⟨rfl, fun a _ b _ => by simp⟩
theorem Half.step {T T' : List Nat} {i k R C q : Nat} (h : Half T i k R C q T') (hi : i < R) (hk : k < R) (hq : q < C) (hT : T.length = R * C) :
    Half T i k R C (q + 1) ((T'.set (i * C + q) (T'.getD (k * C + q) 0)).set (k * C + q) (T'.getD (i * C + q) 0)) := by
  refine ⟨by rw [List.length_set, List.length_set]; exact h.1, fun a ha b hb => ?_⟩
  have hli := tab_lt hi hq
  have hlk := tab_lt hk hq
  have hx := h.2 i hi q hq
  have hy := h.2 k hk q hq
  rw [if_neg (by omega)] at hx hy
  have hl := h.1
  by_cases e : b = q
  · subst e
    rw [if_pos (by omega)]
    by_cases e1 : a = k
    · subst e1
      rw [getD_set_self (by rw [List.length_set]; omega), hx]
      have : sw i a a = i := by
        unfold sw
        by_cases h2 : a = i
        · rw [if_pos h2]; exact h2
        · rw [if_neg h2, if_pos rfl]
      rw [this]
    · rw [getD_set_ne _ (fun e2 => e1 (tab_inj hq hq e2).1.symm)]
      by_cases e2 : a = i
      · subst e2
        rw [getD_set_self (by omega), hy]
        have : sw a k a = k := by unfold sw; rw [if_pos rfl]
        rw [this]
      · rw [getD_set_ne _ (fun e3 => e2 (tab_inj hq hq e3).1.symm), h.2 a ha b hb, if_neg (by omega)]
        have : sw i k a = a := by unfold sw; rw [if_neg e2, if_neg e1]
        rw [this]
  · rw [getD_set_ne _ (fun e2 => e (tab_inj hq hb e2).2.symm), getD_set_ne _ (fun e2 => e (tab_inj hq hb e2).2.symm), h.2 a ha b hb]
    by_cases h2 : b < q
    · rw [if_pos h2, if_pos (by omega)]
    · rw [if_neg h2, if_neg (by omega)]

end Go.Proofs.Ytjjneiidggcfdaa
set_option linter.unusedVariables false
namespace Go.Proofs.Ytjjneiidggcfdaa
open Go.RowKit
attribute [local go_sem ↓] Go.wp_at_zero Go.wp_at_succ

/-- The table's rows stand as the first q changes of the order have it. -/
def Prm (T : List Nat) (zs : List Int) (R C q : Nat) (T' : List Nat) : Prop := T'.length = T.length ∧ ∀ a, a < R → ∀ b, b < C → T'.getD (a * C + b) 0 = T.getD (prm zs q a * C + b) 0
theorem Prm.step {T T' T2 : List Nat} {zs : List Int} {R C q j : Nat} (h : Prm T zs R C q T') (h2 : Half T' q j R C C T2) (hq : q < R) (hj : j < R) (e : ∀ a, prm zs (q + 1) a = prm zs q (sw q j a)) : Prm T zs R C (q + 1) T2 :=
  ⟨h2.1.trans h.1, fun a ha b hb => by
    rw [h2.2 a ha b hb, if_pos hb, h.2 _ (sw_lt hq hj ha) b hb, e]⟩

end Go.Proofs.Ytjjneiidggcfdaa
set_option linter.unusedVariables false
set_option linter.unusedSimpArgs false
namespace Go.Proofs.Ytjjneiidggcfdaa
open Go.RowKit
attribute [local go_sem ↓] Go.wp_at_zero Go.wp_at_succ

/-- The list has the table T at the matrix' first places, by rows, and is else as it was. -/
def Pim (l : List Nat) (o R C L : Nat) (T : Nat → Nat → Nat) (a b : Nat) (l' : List Nat) : Prop :=
  l'.length = l.length ∧ (∀ i, i < R → ∀ j, j < C → l'.getD (o + i + j * L) 0 = if i < a ∨ (i = a ∧ j < b) then T i j else l.getD (o + i + j * L) 0) ∧ ∀ x, (∀ i, i < R → ∀ j, j < C → x ≠ o + i + j * L) → l'.getD x 0 = l.getD x 0
theorem Pim.zero (l : List Nat) (o R C L : Nat) (T : Nat → Nat → Nat) : Pim l o R C L T 0 0 l := ⟨rfl, fun i _ j _ => by rw [if_neg (by omega)], fun _ _ => rfl⟩
theorem Pim.done {l l' : List Nat} {o R C L : Nat} {T : Nat → Nat → Nat} (h : Pim l o R C L T R 0 l') : Img l o R C L T l' :=
  ⟨h.1, fun i hi j hj => by rw [h.2.1 i hi j hj, if_pos (.inl hi)], h.2.2⟩
theorem Pim.step {l l' : List Nat} {o R C L : Nat} {T : Nat → Nat → Nat} {a b : Nat} (h : Pim l o R C L T a b l') (hR : R ≤ L) (ha : a < R) (hb : b < C) (hP : o + a + b * L < l.length) : Pim l o R C L T a (b + 1) (l'.set (o + a + b * L) (T a b)) := by
  refine ⟨by rw [List.length_set]; exact h.1, fun i hi j hj => ?_, fun x hx => ?_⟩
  · by_cases e : i = a ∧ j = b
    · obtain ⟨rfl, rfl⟩ := e
      rw [getD_set_self (by rw [h.1]; exact hP), if_pos (by omega)]
    · rw [getD_set_ne _ (fun e2 => e (by
        have := spots_inj (L := L) (a := a) (b := b) (a' := i) (b' := j) (by omega) (by omega) (by omega)
        exact ⟨this.1.symm, this.2.symm⟩)), h.2.1 i hi j hj]
      by_cases e1 : i < a ∨ (i = a ∧ j < b)
      · rw [if_pos e1, if_pos (by omega)]
      · rw [if_neg e1, if_neg (by omega)]
  · rw [getD_set_ne _ (fun e => hx a ha b hb e.symm), h.2.2 x hx]
end Go.Proofs.Ytjjneiidggcfdaa
set_option linter.unusedVariables false
set_option linter.unusedSimpArgs false
set_option linter.unnecessarySimpa false
namespace Go.Proofs.Ytjjneiidggcfdaa
open Go.RowKit
attribute [local go_sem ↓] Go.wp_at_zero Go.wp_at_succ

/-- Two results that have lists of their own. -/
def Twin (Z : Nat) (l l' : List Nat) (f f' : Nat → Nat → Value) (d1 d3 : Bool) (va vb : Value) (W : World) : Prop :=
  d1 = true → ∃ g c, va = f g c ∧ Own W g l ∧ Z ≤ g ∧ (d3 = true → ∃ g' c', vb = f' g' c' ∧ Own W g' l' ∧ Z ≤ g' ∧ g ≠ g')
section
variable {Z : Nat} {l l' : List Nat} {f f' : Nat → Nat → Value} {d1 d3 : Bool} {va vb : Value} {W W' : World}
theorem Twin.nxt (h : Twin Z l l' f f' d1 d3 va vb W) (hb : Below W.heap.size W W') : Twin Z l l' f f' d1 d3 va vb W' := fun e => by
  obtain ⟨g, c, h1, h2, h3, h4⟩ := h e
  refine ⟨g, c, h1, h2.nxt hb, h3, fun e' => ?_⟩
  obtain ⟨g', c', k1, k2, k3, k4⟩ := h4 e'
  exact ⟨g', c', k1, k2.nxt hb, k3, k4⟩
theorem own_ne {g p : Nat} {t : TypeId} {cs : Array Value} (h : Own W g l) (hB : Blk W p t cs) (ht : t ≠ 25) : g ≠ p := by
  rintro rfl
  obtain ⟨cs', hB', _⟩ := h
  unfold Blk at hB hB'
  rw [hB] at hB'
  injection hB' with hB'
  injection hB' with _ e _
  exact ht e
theorem own_far {g p : Nat} (h : Own W g l) (hb : ∀ k, k ≠ p → W'.heap[k]? = W.heap[k]?) (hne : g ≠ p) : Own W' g l := by
  obtain ⟨cs', hB', h2⟩ := h
  exact ⟨cs', (hb g hne).trans hB', h2⟩
theorem Twin.far {p : Nat} {t : TypeId} {cs : Array Value} (h : Twin Z l l' f f' d1 d3 va vb W) (hB : Blk W p t cs) (ht : t ≠ 25) (hb : ∀ k, k ≠ p → W'.heap[k]? = W.heap[k]?) : Twin Z l l' f f' d1 d3 va vb W' := fun e => by
  obtain ⟨g, c, h1, h2, h3, h4⟩ := h e
  refine ⟨g, c, h1, own_far h2 hb (own_ne h2 hB ht), h3, fun e' => ?_⟩
  obtain ⟨g', c', k1, k2, k3, k4⟩ := h4 e'
  exact ⟨g', c', k1, own_far k2 hb (own_ne k2 hB ht), k3, k4⟩
theorem Twin.first {g c : Nat} (ho : Own W g l) (hZ : Z ≤ g) (h3 : d3 = false) : Twin Z l l' f f' true d3 (f g c) vb W := fun _ => ⟨g, c, rfl, ho, hZ, fun e => by rw [h3] at e; cases e⟩
theorem Twin.second {g' c' : Nat} (h : Twin Z l l' f f' true false va vb W) (hb : Below W.heap.size W W') (ho : Own W' g' l') (hZ : Z ≤ g') (hg : W.heap.size ≤ g') : Twin Z l l' f f' true true va (f' g' c') W' := fun _ => by
  obtain ⟨g, c, h1, h2, h3, h4⟩ := h rfl
  exact ⟨g, c, h1, h2.nxt hb, h3, fun _ => ⟨g', c', rfl, ho, hZ, by have := h2.lt; omega⟩⟩
end
/-- The cells of a struct. -/
def cellsV : Value → Array Value
  | .agg cs => cs
  | _ => #[]
theorem Two.chg1 {w0 W : World} {t : TypeId} {z a a' b : Array Value} {da db sb : Bool} {va vb : Value} (h : Two w0 t z a b da db false sb va vb W) : Two w0 t z a' b da db false sb va vb W := h
theorem Two.chg2 {w0 W : World} {t : TypeId} {z a b b' : Array Value} {da db sa : Bool} {va vb : Value} (h : Two w0 t z a b da db sa false va vb W) : Two w0 t z a b' da db sa false va vb W := h

end Go.Proofs.Ytjjneiidggcfdaa
set_option linter.unusedVariables false
set_option linter.unusedSimpArgs false
set_option linter.unnecessarySimpa false
namespace Go.Proofs.Ytjjneiidggcfdaa
open Go.RowKit
attribute [local go_sem ↓] Go.wp_at_zero Go.wp_at_succ

/-- Block g is of floats, and they meet S. -/
def OwnS (W : World) (S : Array Value → Prop) (g : Nat) : Prop := ∃ cs : Array Value, Blk W g 25 cs ∧ S cs
section
variable {W W' : World} {S S' : Array Value → Prop} {g : Nat}
theorem OwnS.nxt (h : OwnS W S g) (hb : Below W.heap.size W W') : OwnS W' S g := by
  obtain ⟨cs, h1, h2⟩ := h
  exact ⟨cs, h1.nxt hb, h2⟩
theorem OwnS.lt (h : OwnS W S g) : g < W.heap.size := by
  obtain ⟨cs, h1, h2⟩ := h
  exact h1.lt
theorem OwnS.ne_ {p : Nat} {t : TypeId} {cs : Array Value} (h : OwnS W S g) (hB : Blk W p t cs) (ht : t ≠ 25) : g ≠ p := by
  rintro rfl
  obtain ⟨cs', hB', _⟩ := h
  unfold Blk at hB hB'
  rw [hB] at hB'
  injection hB' with hB'
  injection hB' with _ e _
  exact ht e
theorem OwnS.far {p : Nat} (h : OwnS W S g) (hb : ∀ k, k ≠ p → W'.heap[k]? = W.heap[k]?) (hne : g ≠ p) : OwnS W' S g := by
  obtain ⟨cs', hB', h2⟩ := h
  exact ⟨cs', (hb g hne).trans hB', h2⟩
end
/-- Two results, each with a block of its own. -/
def Twn (Z : Nat) (S S' : Array Value → Prop) (f f' : Nat → Nat → Value) (d1 d3 : Bool) (va vb : Value) (W : World) : Prop :=
  d1 = true → ∃ g c, va = f g c ∧ OwnS W S g ∧ Z ≤ g ∧ (d3 = true → ∃ g' c', vb = f' g' c' ∧ OwnS W S' g' ∧ Z ≤ g' ∧ g ≠ g')
section
variable {Z : Nat} {S S' : Array Value → Prop} {f f' : Nat → Nat → Value} {d1 d3 : Bool} {va vb : Value} {W W' : World}
theorem Twn.nxt (h : Twn Z S S' f f' d1 d3 va vb W) (hb : Below W.heap.size W W') : Twn Z S S' f f' d1 d3 va vb W' := fun e => by
  obtain ⟨g, c, h1, h2, h3, h4⟩ := h e
  refine ⟨g, c, h1, h2.nxt hb, h3, fun e' => ?_⟩
  obtain ⟨g', c', k1, k2, k3, k4⟩ := h4 e'
  exact ⟨g', c', k1, k2.nxt hb, k3, k4⟩
theorem Twn.far {p : Nat} {t : TypeId} {cs : Array Value} (h : Twn Z S S' f f' d1 d3 va vb W) (hB : Blk W p t cs) (ht : t ≠ 25) (hb : ∀ k, k ≠ p → W'.heap[k]? = W.heap[k]?) : Twn Z S S' f f' d1 d3 va vb W' := fun e => by
  obtain ⟨g, c, h1, h2, h3, h4⟩ := h e
  refine ⟨g, c, h1, h2.far hb (h2.ne_ hB ht), h3, fun e' => ?_⟩
  obtain ⟨g', c', k1, k2, k3, k4⟩ := h4 e'
  exact ⟨g', c', k1, k2.far hb (k2.ne_ hB ht), k3, k4⟩
theorem Twn.first {g c : Nat} (ho : OwnS W S g) (hZ : Z ≤ g) (h3 : d3 = false) : Twn Z S S' f f' true d3 (f g c) vb W := fun _ => ⟨g, c, rfl, ho, hZ, fun e => by rw [h3] at e; cases e⟩
theorem Twn.second {g' c' : Nat} (h : Twn Z S S' f f' true false va vb W) (hb : Below W.heap.size W W') (ho : OwnS W' S' g') (hZ : Z ≤ g') (hg : W.heap.size ≤ g') : Twn Z S S' f f' true true va (f' g' c') W' := fun _ => by
  obtain ⟨g, c, h1, h2, h3, h4⟩ := h rfl
  exact ⟨g, c, h1, h2.nxt hb, h3, fun _ => ⟨g', c', rfl, ho, hZ, by have := h2.lt; omega⟩⟩
end
end Go.Proofs.Ytjjneiidggcfdaa
set_option linter.unusedVariables false
set_option linter.unusedSimpArgs false
set_option linter.unnecessarySimpa false
namespace Go.Proofs.Ytjjneiidggcfdaa
open Go.RowKit

/-- Two lists of the call's own, the one changed or not yet, and the other. -/
def Both (W0 : World) (l : List Nat) (F1 F2 : List Nat → Prop) (g1 g2 : Nat) (d3 d6 : Bool) (W : World) : Prop :=
  ∃ la lb, Own W g1 la ∧ Own W g2 lb ∧ (if d3 = true then F1 la else la = l) ∧ (if d6 = true then F2 lb else lb = l) ∧ Chg [g1, g2] W0 W
section
variable {W0 W W' : World} {l : List Nat} {F1 F2 : List Nat → Prop} {g1 g2 : Nat} {d3 d6 : Bool}
theorem Both.start (h1 : Own W g1 l) (h2 : Own W g2 l) (hc : Chg [g1, g2] W0 W) : Both W0 l F1 F2 g1 g2 false false W := ⟨l, l, h1, h2, rfl, rfl, hc⟩
theorem Both.first (h : Both W0 l F1 F2 g1 g2 false d6 W) (hne : g1 ≠ g2) {l' : List Nat} (ho : Own W' g1 l') (hF : F1 l') (hc : Chg [g1] W W') : Both W0 l F1 F2 g1 g2 true d6 W' := by
  obtain ⟨la, lb, h1, h2, h3, h4, h5⟩ := h
  exact ⟨l', lb, ho, hc.own (by simp; exact fun e => hne e.symm) h2, hF, h4, h5.trans (hc.mono (by simp))⟩
theorem Both.second (h : Both W0 l F1 F2 g1 g2 d3 false W) (hne : g1 ≠ g2) {l' : List Nat} (ho : Own W' g2 l') (hF : F2 l') (hc : Chg [g2] W W') : Both W0 l F1 F2 g1 g2 d3 true W' := by
  obtain ⟨la, lb, h1, h2, h3, h4, h5⟩ := h
  exact ⟨la, l', hc.own (by simp; exact hne) h1, ho, h3, hF, h5.trans (hc.mono (by simp))⟩
theorem Both.one (h : Both W0 l F1 F2 g1 g2 false d6 W) : Own W g1 l := by
  obtain ⟨la, lb, h1, h2, h3, h4, h5⟩ := h
  have h3 : la = l := h3
  subst h3; exact h1
theorem Both.two (h : Both W0 l F1 F2 g1 g2 d3 false W) : Own W g2 l := by
  obtain ⟨la, lb, h1, h2, h3, h4, h5⟩ := h
  have h4 : lb = l := h4
  subst h4; exact h2
theorem Both.chg (h : Both W0 l F1 F2 g1 g2 d3 d6 W) : Chg [g1, g2] W0 W := by
  obtain ⟨la, lb, h1, h2, h3, h4, h5⟩ := h
  exact h5
end
/-- A list of the caller's is as it was. -/
theorem chg_row {w W0 W : World} {G : List Nat} {B : Option Addr} {xs : List Value} (h : Row w B xs) (hb : Below w.heap.size w W0) (hc : Chg G W0 W) (hG : ∀ g ∈ G, w.heap.size ≤ g) : Row W B xs := by
  rcases h with rfl | ⟨b, o, rfl, h1⟩
  · exact .inl rfl
  · cases xs with
    | nil => exact .inl rfl
    | cons x xs =>
      have hlt := block_lt (h1 0 x rfl)
      refine hc.row (fun b' o' e => ?_) ((show Row w (some ⟨b, o, none⟩) (x :: xs) from .inr ⟨b, o, rfl, h1⟩).below hb)
      injection e with e; injection e with e _
      subst e
      intro hg
      have := hG _ hg
      omega

end Go.Proofs.Ytjjneiidggcfdaa
set_option linter.unusedVariables false
set_option linter.unusedSimpArgs false
set_option linter.unnecessarySimpa false
namespace Go.Proofs.Ytjjneiidggcfdaa
open Go.RowKit
attribute [local go_sem ↓] Go.wp_at_zero Go.wp_at_succ


set_option maxRecDepth 100000 in
set_option maxHeartbeats 4000000 in
theorem axesScale_bad (a : Nat) (A : Option Addr) (n c : Nat) (l : List Nat) (off k inc : Int) (Bk : Option Addr) (kn kc : Nat) (zs : List Int) (w : World) (hA : Row w A (f64s l)) (hW : Wds l) (hl : l.length = n) (hn : n ≤ 1000) (hk60 : k ≤ 60) (ho : I64 off) (hk : I64 k) (hi : I64 inc) (hZ : Row w Bk (i64s zs)) (hz : zs.length = kn) (hkn : kn ≤ 100) (hRX : vecB n off k inc = false) :
    Calls Try.prog 5 #[.float .f64 a, vec A n c off k inc, .slice Bk kn kc] w fun e w' => e = .returned (.bool true) ∧ Below w.heap.size w w' := by
  have HLg := Lib.hid (fun W => long_any A n c off k inc W)
  rw [show longB n k = false by unfold longB; simp; omega] at HLg
  have HAx := Lib.hid (fun W (hb : Below w.heap.size w W) => show Calls Try.prog 23 #[vec A n c off k inc] W fun e w' => ∃ g c', e = .returned (vec (some ⟨g, 0, none⟩) n c' off k inc) ∧ OwnS w' (fun cs => cs.toList.take (l).length = f64s l) g ∧ W.heap.size ≤ g ∧ Below W.heap.size W w' from by
    have := ralone_any A c l off k inc W (hA.below hb) (by omega)
    rw [hl] at this
    exact this.mono fun e w' ⟨g, c', e1, e2, e3, _, _, e4⟩ => ⟨g, c', e1, e2, e3, e4⟩)
  have HAll := Lib.hid (fun W (A B : Option Addr) (c d : Nat) (h1 : Row W A (f64s l)) (h2 : Row W B (f64s l)) => show Calls Try.prog 26 #[.slice A n c, .slice B n d] W fun e w' => e = .returned (.bool true) ∧ Below W.heap.size W w' from by
    have := rall_any A B c d l l W hW hW h1 h2 (by omega) (Alike.refl l)
    rw [hl] at this; exact this)
  have HRx := Lib.hid (fun W => show Calls Try.prog 33 #[vec A n c off k inc] W fun e w' => e = .returned (.bool false) ∧ Below W.heap.size W w' from by
    have := rright_any A n c off k inc W (by omega) ho hk hi
    rw [hRX] at this; exact this)
  have hk100 : ¬ (100 : Int) < (kn : Int) := by omega
  have HA := Lib.hid hA
  have HZ := Lib.hid hZ
  have HSc := Lib.hid (fun W (g c : Nat) (hO : Own W g l) => show Calls Try.prog 30 #[.float .f64 a, vec (some ⟨g, 0, none⟩) n c off k inc] W fun e w' => e = .returned (.int .i64 1) ∧ ∃ l', Own w' g l' ∧ (fun M => M = l) l' ∧ Chg [g] W w' from by
    refine (axscal_err a _ n c off k inc W (by omega) ho hk hi hRX).mono ?_
    rintro e w' ⟨rfl, hb⟩
    exact ⟨rfl, l, hO.nxt hb, rfl, Chg.of_below hb⟩)
  have HSh := Lib.hid (fun W (g c : Nat) (hO : Own W g l) (hZ : Row W Bk (i64s zs)) (hg : w.heap.size ≤ g) => show Calls Try.prog 31 #[vec (some ⟨g, 0, none⟩) n c off k inc, .slice Bk kn kc] W fun e w' => e = .returned (.int .i64 1) ∧ ∃ l', Own w' g l' ∧ (fun M => M = l) l' ∧ Chg [g] W w' from by
    refine (axshift_err _ Bk n c kn kc off k inc W (by omega) ho hk hi 1 (by unfold shfI; rw [hRX]; rfl) (by omega)).mono ?_
    rintro e w' ⟨rfl, hb⟩
    exact ⟨rfl, l, hO.nxt hb, rfl, Chg.of_below hb⟩)
  have HSg := Lib.hid (fun W => axsign_err A n c off k inc W (by omega) ho hk hi hRX)
  clear hA hW hl hn hk60 ho hk hi hZ hz hkn hRX
  unfold vec at *
  go_enter Try.func5, Try.ntmps5
  have Hx0 := Lib.hid (Blk.new w 30 #[.slice A n c, .int .i64 off, .int .i64 k, .int .i64 inc])
  have HB0 := Lib.hid ((Below.refl w.heap.size w).alloc (Nat.le_refl _) (.cells #[.slice A n c, .int .i64 off, .int .i64 k, .int .i64 inc] 30))
  obtain ⟨x0, x1, x2, x3⟩ := cells4w Hx0.out
  go_wp2_with fail
  refine (awake6_any _).mono ?_
  rintro e w1 ⟨rfl, hb⟩
  have Hx1 := Lib.hid (Hx0.out.nxt hb)
  have HB1 := Lib.hid (below_nx HB0.out hb)
  clear hb
  clear x0 x1 x2 x3
  obtain ⟨x0, x1, x2, x3⟩ := cells4w Hx1.out
  go_wp2_with fail
  refine (HLg.out _).mono ?_
  rintro e w2 ⟨rfl, hb⟩
  have Hx2 := Lib.hid (Hx1.out.nxt hb)
  have HB2 := Lib.hid (below_nx HB1.out hb)
  clear hb
  clear x0 x1 x2 x3
  obtain ⟨x0, x1, x2, x3⟩ := cells4w Hx2.out
  go_wp2_with fail
  refine wp_region_inv [24, 25, 26, 27, 7, 8] (fun d s W => (d 0 = true → s 24 = .agg #[.slice A n c, .int .i64 off, .int .i64 k, .int .i64 inc]) ∧ (d 2 = true → s 26 = .agg #[.slice A n c, .int .i64 off, .int .i64 k, .int .i64 inc]) ∧ Twn w2.heap.size (fun cs => cs.toList.take (l).length = f64s l) (fun cs => cs.toList.take (l).length = f64s l) (fun g c => .agg #[.slice (some ⟨g, 0, none⟩) n c, .int .i64 off, .int .i64 k, .int .i64 inc]) (fun g c => .agg #[.slice (some ⟨g, 0, none⟩) n c, .int .i64 off, .int .i64 k, .int .i64 inc]) (d 1) (d 3) (s 25) (s 27) W ∧
    Two w2 30 #[.slice none 0 0, .int .i64 0, .int .i64 0, .int .i64 0] (cellsV (s 25)) (cellsV (s 27)) (d 4) (d 5) (d 6) (d 7) (s 7) (s 8) W ∧ (d 6 = true → d 4 = true ∧ d 1 = true) ∧ (d 7 = true → d 5 = true ∧ d 3 = true) ∧ (d 3 = true → d 1 = true))
    rfl (by kernel_rfl) ?_ ?_ ?_
  · exact ⟨by simp, by simp, fun h => by simp at h, ⟨(Below.refl _ _).drew, by simp, by simp, by simp⟩, by simp, by simp, by simp⟩
  · refine ⟨?_, ?_, ?_, ?_, ?_, ?_, ?_, ?_, trivial⟩
    all_goals
      intro d s W hJ hfr hd hdep
      simp only [List.mem_cons, forall_eq_or_imp, List.not_mem_nil, false_implies, implies_true, and_true, Region.binds] at hdep
      have f0 := hfr 4 (by decide)
      have f1 := hfr 4 (by decide)
      simp at f0 f1 hdep
      obtain ⟨h0, h2, hTw, hT, hx, hy, hv⟩ := hJ
      unfold OpSteps
    · obtain ⟨p0, p1, p2, p3⟩ := cells4w (Hx2.out.below hT.1 Hx2.out.lt)
      simp [go_sem, evS, f0, p0, p1, p2, p3]
      exact ⟨fun _ => by simp [sput], fun h => by simpa [sput] using h2 (by simpa [did] using h), by simpa [sput, did] using hTw, by simpa [sput, did] using hT, fun h => by simpa [did] using hx (by simpa [did] using h), fun h => by simpa [did] using hy (by simpa [did] using h), fun h => by simpa [did] using hv (by simpa [did] using h)⟩
    · have g0 := h0 (by simpa using hdep)
      have hd3 : d 3 = false := by
        cases h : d 3
        · rfl
        · have := hv h; rw [hd] at this; cases this
      have hd6 : d 6 = false := by
        cases h : d 6
        · rfl
        · have := (hx h).2; rw [hd] at this; cases this
      simp [go_sem, evS, g0]
      refine (HAx.out W (below_nx HB2.out hT.1)).mono ?_
      rintro e W' ⟨g, c9, rfl, ho, hg, hb⟩
      refine ⟨_, rfl, ?_⟩
      have hT2 := hT.nxt hb
      rw [hd6] at hT2
      have hT2 := hT2.chg1 (a' := cellsV (.agg #[.slice (some ⟨g, 0, none⟩) n c9, .int .i64 off, .int .i64 k, .int .i64 inc]))
      have hTw2 := Twn.first (Z := w2.heap.size) (S := (fun cs => cs.toList.take (l).length = f64s l)) (S' := (fun cs => cs.toList.take (l).length = f64s l)) (f := (fun g c => .agg #[.slice (some ⟨g, 0, none⟩) n c, .int .i64 off, .int .i64 k, .int .i64 inc])) (f' := (fun g c => .agg #[.slice (some ⟨g, 0, none⟩) n c, .int .i64 off, .int .i64 k, .int .i64 inc])) (d3 := false) (vb := s 27) (c := c9) ho (Nat.le_trans hT.1.size hg) rfl
      exact ⟨fun h => by simpa [sput] using h0 (by simpa [did] using h), fun h => by simpa [sput] using h2 (by simpa [did] using h), by simpa [sput, did, hd3] using hTw2, by simpa [sput, did, hd6] using hT2, fun h => by simp [did, hd6] at h, fun h => by simpa [did] using hy (by simpa [did] using h), fun h => by simp [did]⟩
    · obtain ⟨p0, p1, p2, p3⟩ := cells4w (Hx2.out.below hT.1 Hx2.out.lt)
      simp [go_sem, evS, f1, p0, p1, p2, p3]
      exact ⟨fun h => by simpa [sput] using h0 (by simpa [did] using h), fun _ => by simp [sput], by simpa [sput, did] using hTw, by simpa [sput, did] using hT, fun h => by simpa [did] using hx (by simpa [did] using h), fun h => by simpa [did] using hy (by simpa [did] using h), fun h => by simpa [did] using hv (by simpa [did] using h)⟩
    · have g0 := h2 (by simpa using hdep.1)
      have hd1 : d 1 = true := by simpa using hdep.2
      have hd7 : d 7 = false := by
        cases h : d 7
        · rfl
        · have := (hy h).2; rw [hd] at this; cases this
      simp [go_sem, evS, g0]
      refine (HAx.out W (below_nx HB2.out hT.1)).mono ?_
      rintro e W' ⟨g, c9, rfl, ho, hg, hb⟩
      refine ⟨_, rfl, ?_⟩
      have hT2 := hT.nxt hb
      rw [hd7] at hT2
      have hT2 := hT2.chg2 (b' := cellsV (.agg #[.slice (some ⟨g, 0, none⟩) n c9, .int .i64 off, .int .i64 k, .int .i64 inc]))
      rw [hd1, hd] at hTw
      have hTw2 := hTw.second hb (c' := c9) ho (Nat.le_trans hT.1.size hg) hg
      exact ⟨fun h => by simpa [sput] using h0 (by simpa [did] using h), fun h => by simpa [sput] using h2 (by simpa [did] using h), by simpa [sput, did, hd1] using hTw2, by simpa [sput, did, hd7] using hT2, fun h => by simpa [did] using hx (by simpa [did] using h), fun h => by simp [did, hd7] at h, fun h => by simpa [did] using hd1⟩
    · have hd6 : d 6 = false := by
        cases h : d 6
        · rfl
        · have := (hx h).1; rw [hd] at this; cases this
      rw [hd, hd6] at hT
      have hT2 := hT.alloc1
      have hTw2 := hTw.nxt (below_one (W := W) (o := .cells #[.slice none 0 0, .int .i64 0, .int .i64 0, .int .i64 0] 30))
      simp [go_sem, evS]
      exact ⟨fun h => by simpa [sput] using h0 (by simpa [did] using h), fun h => by simpa [sput] using h2 (by simpa [did] using h), by simpa [sput, did] using hTw2, by simpa [sput, did, hd6] using hT2, fun h => by simp [did, hd6] at h, fun h => by simpa [did] using hy (by simpa [did] using h), fun h => by simpa [did] using hv (by simpa [did] using h)⟩
    · have hd7 : d 7 = false := by
        cases h : d 7
        · rfl
        · have := (hy h).1; rw [hd] at this; cases this
      rw [hd, hd7] at hT
      have hT2 := hT.alloc2
      have hTw2 := hTw.nxt (below_one (W := W) (o := .cells #[.slice none 0 0, .int .i64 0, .int .i64 0, .int .i64 0] 30))
      simp [go_sem, evS]
      exact ⟨fun h => by simpa [sput] using h0 (by simpa [did] using h), fun h => by simpa [sput] using h2 (by simpa [did] using h), by simpa [sput, did] using hTw2, by simpa [sput, did, hd7] using hT2, fun h => by simpa [did] using hx (by simpa [did] using h), fun h => by simp [did, hd7] at h, fun h => by simpa [did] using hv (by simpa [did] using h)⟩
    · have e4 : d 4 = true := by simp [hdep]
      have e1 : d 1 = true := by simp [hdep]
      have hTw0 := hTw
      obtain ⟨gg, cc, hva, hO1, hZ1, hrest⟩ := hTw e1
      rw [hd, e4] at hT
      obtain ⟨p, hp, hp2, hpB⟩ := hT.2.1 rfl
      simp only [Bool.false_eq_true, if_false] at hpB
      obtain ⟨r0, r1, r2, r3⟩ := cells4w hpB
      obtain ⟨q0, q1, q2, q3⟩ := frozen4w hpB
      rw [hp] at hT
      have hfar : ∀ k9, k9 ≠ p → _ := fun k9 (hk9 : k9 ≠ p) => heap_sets4 (w := W) hk9 (.slice (some ⟨gg, 0, none⟩) n cc) (.int .i64 off) (.int .i64 k) (.int .i64 inc)
      have hst := hpB.store4v (.slice (some ⟨gg, 0, none⟩) n cc) (.int .i64 off) (.int .i64 k) (.int .i64 inc)
      have hT2 := hT.store1 (W' := ((((W.setCell ⟨p, 0, none⟩ (.slice (some ⟨gg, 0, none⟩) n cc)).setCell ⟨p, 1, none⟩ (.int .i64 off)).setCell ⟨p, 2, none⟩ (.int .i64 k)).setCell ⟨p, 3, none⟩ (.int .i64 inc))) hfar (by rw [hva]; exact hst) (rest_sets4 _ _ _ _ _ _ _ _ _)
      have hTw2 := hTw0.far hpB (by decide) hfar
      simp [go_sem, evS, hp, hva, r0, r1, r2, r3, q0, q1, q2, q3]
      exact ⟨fun h => by simpa [sput] using h0 (by simpa [did] using h), fun h => by simpa [sput] using h2 (by simpa [did] using h), by simpa [sput, did] using hTw2, by simpa [sput, did, hp, e4] using hT2, fun _ => by simp [did, e4, e1], fun h => by simpa [did] using hy (by simpa [did] using h), fun h => by simpa [did] using hv (by simpa [did] using h)⟩
    · have e5 : d 5 = true := by simp [hdep]
      have e1 : d 3 = true := by simp [hdep]
      have hTw0 := hTw
      obtain ⟨gg0, cc0, hva0, hO1, hZ1, hrest⟩ := hTw (hv e1)
      obtain ⟨gg, cc, hva, hO2, hZ2, hne2⟩ := hrest e1
      rw [hd, e5] at hT
      obtain ⟨p, hp, hp2, hpB⟩ := hT.2.2.1 rfl
      simp only [Bool.false_eq_true, if_false] at hpB
      obtain ⟨r0, r1, r2, r3⟩ := cells4w hpB
      obtain ⟨q0, q1, q2, q3⟩ := frozen4w hpB
      rw [hp] at hT
      have hfar : ∀ k9, k9 ≠ p → _ := fun k9 (hk9 : k9 ≠ p) => heap_sets4 (w := W) hk9 (.slice (some ⟨gg, 0, none⟩) n cc) (.int .i64 off) (.int .i64 k) (.int .i64 inc)
      have hst := hpB.store4v (.slice (some ⟨gg, 0, none⟩) n cc) (.int .i64 off) (.int .i64 k) (.int .i64 inc)
      have hT2 := hT.store2 (W' := ((((W.setCell ⟨p, 0, none⟩ (.slice (some ⟨gg, 0, none⟩) n cc)).setCell ⟨p, 1, none⟩ (.int .i64 off)).setCell ⟨p, 2, none⟩ (.int .i64 k)).setCell ⟨p, 3, none⟩ (.int .i64 inc))) hfar (by rw [hva]; exact hst) (rest_sets4 _ _ _ _ _ _ _ _ _)
      have hTw2 := hTw0.far hpB (by decide) hfar
      simp [go_sem, evS, hp, hva, r0, r1, r2, r3, q0, q1, q2, q3]
      exact ⟨fun h => by simpa [sput] using h0 (by simpa [did] using h), fun h => by simpa [sput] using h2 (by simpa [did] using h), by simpa [sput, did] using hTw2, by simpa [sput, did, hp, e5] using hT2, fun h => by simpa [did] using hx (by simpa [did] using h), fun _ => by simp [did, e5, e1], fun h => by simpa [did] using hv (by simpa [did] using h)⟩
  intro d s W hJ hd
  obtain ⟨_, _, hTw, hT, _, _, _⟩ := hJ
  obtain ⟨g1, c1, hsA, hO1, hZ1, hrest⟩ := hTw (hd 1 (by decide))
  obtain ⟨g2, c2, hsB, hO2, hZ2, hg12⟩ := hrest (hd 3 (by decide))
  obtain ⟨hb, hp, hq, hne⟩ := hT
  obtain ⟨p, hp, hp2, hpB⟩ := hp (hd 4 (by decide))
  obtain ⟨q, hq, hq2, hqB⟩ := hq (hd 5 (by decide))
  have hpq := hne (hd 4 (by decide)) (hd 5 (by decide))
  rw [hd 6 (by decide), hsA] at hpB
  rw [hd 7 (by decide), hsB] at hqB
  rw [hp, hq] at hpq
  have hpq2 : p ≠ q := fun e => hpq (by rw [e])
  simp only [if_true, cellsV] at hpB hqB
  clear hne hTw hrest hpq hd
  simp [setAll, hp, hq]
  clear hp hq hsA hsB
  generalize s 24 = s26
  generalize s 25 = s27
  generalize s 26 = s28
  generalize s 27 = s29
  have Hx3 := Lib.hid (Hx2.out.below hb Hx2.out.lt)
  have Hp3 := Lib.hid hpB
  have Hq3 := Lib.hid hqB
  have Hu3 := Lib.hid hO1
  have Hv3 := Lib.hid hO2
  have HB3 := Lib.hid (below_nx HB2.out hb)
  have Hg1g2 := Lib.hid hg12
  have hlo0 := Hx2.out.lt
  have Hpqz := Lib.hid (show w.heap.size < g1 ∧ w.heap.size < g2 ∧ w.heap.size < p ∧ w.heap.size < q by omega)
  have Hpq := Lib.hid hpq2
  clear hpB hqB hO1 hO2 hb hg12 hpq2 hZ1 hZ2 hp2 hq2 hlo0
  clear x0 x1 x2 x3
  obtain ⟨x0, x1, x2, x3⟩ := cells4w Hx3.out
  obtain ⟨p0, p1, p2, p3⟩ := cells4w Hp3.out
  obtain ⟨q0, q1, q2, q3⟩ := cells4w Hq3.out
  have Hu3' := Lib.hid (show Own W g1 l from Hu3.out)
  have Hv3' := Lib.hid (show Own W g2 l from Hv3.out)
  clear Hu3 Hv3
  have Hu3 := Hu3'
  have Hv3 := Hv3'
  clear Hu3' Hv3'
  go_wp2_with fail
  have HNp := Lib.hid (show p ∉ [g1, g2] by simp; exact ⟨fun e => own_ne Hu3.out Hp3.out (by decide) e.symm, fun e => own_ne Hv3.out Hp3.out (by decide) e.symm⟩)
  have HNq := Lib.hid (show q ∉ [g1, g2] by simp; exact ⟨fun e => own_ne Hu3.out Hq3.out (by decide) e.symm, fun e => own_ne Hv3.out Hq3.out (by decide) e.symm⟩)
  have HGz := Lib.hid (show ∀ g ∈ [g1, g2], w.heap.size ≤ g by have := Hpqz.out; simp; omega)
  have HNx := Lib.hid (show w.heap.size ∉ [g1, g2] by have := Hpqz.out; simp; omega)
  have HBo := Lib.hid (Both.start (W0 := W) (F1 := (fun M => M = l)) (F2 := (fun M => M = l)) Hu3.out.drew Hv3.out.drew (Chg.refl _ W).drew)
  generalize W = W3 at *
  refine wp_region_inv [28, 29, 30, 31, 32, 33, 9, 10] (fun d s W => (d 0 = true → s 28 = .float .f64 a) ∧ (d 1 = true → s 29 = .agg #[.slice (some ⟨g1, 0, none⟩) n c1, .int .i64 off, .int .i64 k, .int .i64 inc]) ∧ (d 2 = true → s 30 = .int .i64 (1)) ∧ (d 3 = true → s 31 = .agg #[.slice (some ⟨g2, 0, none⟩) n c2, .int .i64 off, .int .i64 k, .int .i64 inc]) ∧ (d 4 = true → s 32 = .slice Bk kn kc) ∧ (d 5 = true → s 33 = .int .i64 (1)) ∧ (d 6 = true → s 9 = .int .i64 (1)) ∧ (d 7 = true → s 10 = .int .i64 (1)) ∧ Both W3 l (fun M => M = l) (fun M => M = l) g1 g2 (d 2) (d 5) W)
    rfl (by kernel_rfl) ?_ ?_ ?_
  · exact ⟨by simp, by simp, by simp, by simp, by simp, by simp, by simp, by simp, HBo.out⟩
  · refine ⟨?_, ?_, ?_, ?_, ?_, ?_, ?_, ?_, trivial⟩
    all_goals
      intro d s W hJ hfr hd hdep
      simp only [List.mem_cons, forall_eq_or_imp, List.not_mem_nil, false_implies, implies_true, and_true, Region.binds] at hdep
      have f0 := hfr 0 (by decide)
      have f2 := hfr 2 (by decide)
      have f7 := hfr 7 (by decide)
      have f8 := hfr 8 (by decide)
      simp at f0 f2 f7 f8 hdep
      obtain ⟨h0, h1, h2, h3, h4, h5, h6, h7, hT⟩ := hJ
    · unfold OpSteps
      simp [go_sem, evS, f0]
      exact ⟨fun _ => by simp [sput], fun h => by simpa [sput] using h1 (by simpa [did] using h), fun h => by simpa [sput] using h2 (by simpa [did] using h), fun h => by simpa [sput] using h3 (by simpa [did] using h), fun h => by simpa [sput] using h4 (by simpa [did] using h), fun h => by simpa [sput] using h5 (by simpa [did] using h), fun h => by simpa [sput] using h6 (by simpa [did] using h), fun h => by simpa [sput] using h7 (by simpa [did] using h), by simpa [did] using hT⟩
    · unfold OpSteps
      obtain ⟨p0, p1, p2, p3⟩ := cells4w (hT.chg.blk HNp.out Hp3.out)
      simp [go_sem, evS, f7, p0, p1, p2, p3]
      exact ⟨fun h => by simpa [sput] using h0 (by simpa [did] using h), fun _ => by simp [sput], fun h => by simpa [sput] using h2 (by simpa [did] using h), fun h => by simpa [sput] using h3 (by simpa [did] using h), fun h => by simpa [sput] using h4 (by simpa [did] using h), fun h => by simpa [sput] using h5 (by simpa [did] using h), fun h => by simpa [sput] using h6 (by simpa [did] using h), fun h => by simpa [sput] using h7 (by simpa [did] using h), by simpa [did] using hT⟩
    · have fa0 := h0 (by simp [hdep])
      have fa1 := h1 (by simp [hdep])
      unfold OpSteps
      rw [hd] at hT
      simp [go_sem, evS, fa0, fa1]
      refine (HSc.out W g1 c1 hT.one).mono ?_
      rintro e W' ⟨rfl, l', ho, hF, hc⟩
      refine ⟨_, rfl, ?_⟩
      exact ⟨fun h => by simpa [sput] using h0 (by simpa [did] using h), fun h => by simpa [sput] using h1 (by simpa [did] using h), fun _ => by simp [sput], fun h => by simpa [sput] using h3 (by simpa [did] using h), fun h => by simpa [sput] using h4 (by simpa [did] using h), fun h => by simpa [sput] using h5 (by simpa [did] using h), fun h => by simpa [sput] using h6 (by simpa [did] using h), fun h => by simpa [sput] using h7 (by simpa [did] using h), by have h9 := hT.first Hg1g2.out ho hF hc; simpa [did] using h9⟩
    · unfold OpSteps
      obtain ⟨p0, p1, p2, p3⟩ := cells4w (hT.chg.blk HNq.out Hq3.out)
      simp [go_sem, evS, f8, p0, p1, p2, p3]
      exact ⟨fun h => by simpa [sput] using h0 (by simpa [did] using h), fun h => by simpa [sput] using h1 (by simpa [did] using h), fun h => by simpa [sput] using h2 (by simpa [did] using h), fun _ => by simp [sput], fun h => by simpa [sput] using h4 (by simpa [did] using h), fun h => by simpa [sput] using h5 (by simpa [did] using h), fun h => by simpa [sput] using h6 (by simpa [did] using h), fun h => by simpa [sput] using h7 (by simpa [did] using h), by simpa [did] using hT⟩
    · unfold OpSteps
      simp [go_sem, evS, f2]
      exact ⟨fun h => by simpa [sput] using h0 (by simpa [did] using h), fun h => by simpa [sput] using h1 (by simpa [did] using h), fun h => by simpa [sput] using h2 (by simpa [did] using h), fun h => by simpa [sput] using h3 (by simpa [did] using h), fun _ => by simp [sput], fun h => by simpa [sput] using h5 (by simpa [did] using h), fun h => by simpa [sput] using h6 (by simpa [did] using h), fun h => by simpa [sput] using h7 (by simpa [did] using h), by simpa [did] using hT⟩
    · have fa3 := h3 (by simp [hdep])
      have fa4 := h4 (by simp [hdep])
      unfold OpSteps
      rw [hd] at hT
      simp [go_sem, evS, fa3, fa4]
      refine (HSh.out W g2 c2 hT.two (chg_row HZ.out HB3.out hT.chg HGz.out) (HGz.out g2 (by simp))).mono ?_
      rintro e W' ⟨rfl, l', ho, hF, hc⟩
      refine ⟨_, rfl, ?_⟩
      exact ⟨fun h => by simpa [sput] using h0 (by simpa [did] using h), fun h => by simpa [sput] using h1 (by simpa [did] using h), fun h => by simpa [sput] using h2 (by simpa [did] using h), fun h => by simpa [sput] using h3 (by simpa [did] using h), fun h => by simpa [sput] using h4 (by simpa [did] using h), fun _ => by simp [sput], fun h => by simpa [sput] using h6 (by simpa [did] using h), fun h => by simpa [sput] using h7 (by simpa [did] using h), by have h9 := hT.second Hg1g2.out ho hF hc; simpa [did] using h9⟩
    · have fa2 := h2 (by simp [hdep])
      unfold OpSteps
      simp [go_sem, evS, fa2]
      exact ⟨fun h => by simpa [sput] using h0 (by simpa [did] using h), fun h => by simpa [sput] using h1 (by simpa [did] using h), fun h => by simpa [sput] using h2 (by simpa [did] using h), fun h => by simpa [sput] using h3 (by simpa [did] using h), fun h => by simpa [sput] using h4 (by simpa [did] using h), fun h => by simpa [sput] using h5 (by simpa [did] using h), fun _ => by simp [sput], fun h => by simpa [sput] using h7 (by simpa [did] using h), by simpa [did] using hT⟩
    · have fa5 := h5 (by simp [hdep])
      unfold OpSteps
      simp [go_sem, evS, fa5]
      exact ⟨fun h => by simpa [sput] using h0 (by simpa [did] using h), fun h => by simpa [sput] using h1 (by simpa [did] using h), fun h => by simpa [sput] using h2 (by simpa [did] using h), fun h => by simpa [sput] using h3 (by simpa [did] using h), fun h => by simpa [sput] using h4 (by simpa [did] using h), fun h => by simpa [sput] using h5 (by simpa [did] using h), fun h => by simpa [sput] using h6 (by simpa [did] using h), fun _ => by simp [sput], by simpa [did] using hT⟩
  intro d s W hJ hd
  obtain ⟨h0, h1, h2, h3, h4, h5, h6, h7, hT⟩ := hJ
  have h11 := h6 (hd 6 (by decide))
  have h12 := h7 (hd 7 (by decide))
  rw [hd 2 (by decide), hd 5 (by decide)] at hT
  obtain ⟨la, lb, hoa, hob, hfa, hfb, hcc⟩ := hT
  clear h0 h1 h2 h3 h4 h5 h6 h7 hd
  simp only [if_true] at hfa hfb
  have Hu4 := Lib.hid hoa
  have Hv4 := Lib.hid hob
  have HFa := Lib.hid hfa
  have HFb := Lib.hid hfb
  have Hp4 := Lib.hid (hcc.blk HNp.out Hp3.out)
  have Hq4 := Lib.hid (hcc.blk HNq.out Hq3.out)
  have Hx4 := Lib.hid (hcc.blk HNx.out Hx3.out)
  have HB4 := Lib.hid (hcc.below HB3.out HB3.out.size (fun x hx => HGz.out x hx))
  clear hoa hob hfa hfb hcc
  simp [setAll, h11, h12]
  clear h11 h12
  generalize s 28 = s28
  generalize s 29 = s29
  generalize s 30 = s30
  generalize s 31 = s31
  generalize s 32 = s32
  generalize s 33 = s33
  generalize W = w5 at *
  clear x0 x1 x2 x3 p0 p1 p2 p3 q0 q1 q2 q3
  obtain ⟨x0, x1, x2, x3⟩ := cells4w Hx4.out
  obtain ⟨p0, p1, p2, p3⟩ := cells4w Hp4.out
  obtain ⟨q0, q1, q2, q3⟩ := cells4w Hq4.out
  go_wp2_with fail
  refine (HSg.out _).mono ?_
  rintro e w6 ⟨rfl, hb⟩
  have Hx5 := Lib.hid (Hx4.out.nxt hb)
  have Hp5 := Lib.hid (Hp4.out.nxt hb)
  have Hq5 := Lib.hid (Hq4.out.nxt hb)
  have Hu5 := Lib.hid (Hu4.out.nxt hb)
  have Hv5 := Lib.hid (Hv4.out.nxt hb)
  have HB5 := Lib.hid (below_nx HB4.out hb)
  clear hb
  clear x0 x1 x2 x3 p0 p1 p2 p3 q0 q1 q2 q3
  obtain ⟨x0, x1, x2, x3⟩ := cells4w Hx5.out
  obtain ⟨p0, p1, p2, p3⟩ := cells4w Hp5.out
  obtain ⟨q0, q1, q2, q3⟩ := cells4w Hq5.out
  go_wp2_with fail
  refine (HRx.out _).mono ?_
  rintro e w7 ⟨rfl, hb⟩
  have Hx6 := Lib.hid (Hx5.out.nxt hb)
  have Hp6 := Lib.hid (Hp5.out.nxt hb)
  have Hq6 := Lib.hid (Hq5.out.nxt hb)
  have Hu6 := Lib.hid (Hu5.out.nxt hb)
  have Hv6 := Lib.hid (Hv5.out.nxt hb)
  have HB6 := Lib.hid (below_nx HB5.out hb)
  clear hb
  clear x0 x1 x2 x3 p0 p1 p2 p3 q0 q1 q2 q3
  obtain ⟨x0, x1, x2, x3⟩ := cells4w Hx6.out
  obtain ⟨p0, p1, p2, p3⟩ := cells4w Hp6.out
  obtain ⟨q0, q1, q2, q3⟩ := cells4w Hq6.out
  go_wp2_with fail
  obtain rfl : la = l := HFa.out
  obtain rfl : lb = la := HFb.out
  refine (HAll.out _ _ _ _ _ Hu6.out.row (HA.out.below HB6.out)).mono ?_
  rintro e w8 ⟨rfl, hb⟩
  have Hx7 := Lib.hid (Hx6.out.nxt hb)
  have Hp7 := Lib.hid (Hp6.out.nxt hb)
  have Hq7 := Lib.hid (Hq6.out.nxt hb)
  have Hu7 := Lib.hid (Hu6.out.nxt hb)
  have Hv7 := Lib.hid (Hv6.out.nxt hb)
  have HB7 := Lib.hid (below_nx HB6.out hb)
  clear hb
  clear x0 x1 x2 x3 p0 p1 p2 p3 q0 q1 q2 q3
  obtain ⟨x0, x1, x2, x3⟩ := cells4w Hx7.out
  obtain ⟨p0, p1, p2, p3⟩ := cells4w Hp7.out
  obtain ⟨q0, q1, q2, q3⟩ := cells4w Hq7.out
  go_wp2_with fail
  refine (HAll.out _ _ _ _ _ Hv7.out.row (HA.out.below HB7.out)).mono ?_
  rintro e w9 ⟨rfl, hb⟩
  have Hx8 := Lib.hid (Hx7.out.nxt hb)
  have Hp8 := Lib.hid (Hp7.out.nxt hb)
  have Hq8 := Lib.hid (Hq7.out.nxt hb)
  have Hu8 := Lib.hid (Hu7.out.nxt hb)
  have Hv8 := Lib.hid (Hv7.out.nxt hb)
  have HB8 := Lib.hid (below_nx HB7.out hb)
  clear hb
  clear x0 x1 x2 x3 p0 p1 p2 p3 q0 q1 q2 q3
  obtain ⟨x0, x1, x2, x3⟩ := cells4w Hx8.out
  obtain ⟨p0, p1, p2, p3⟩ := cells4w Hp8.out
  obtain ⟨q0, q1, q2, q3⟩ := cells4w Hq8.out
  go_wp2_with fail
  refine (awake6_any _).mono ?_
  rintro e w10 ⟨rfl, hb⟩
  have Hx9 := Lib.hid (Hx8.out.nxt hb)
  have Hp9 := Lib.hid (Hp8.out.nxt hb)
  have Hq9 := Lib.hid (Hq8.out.nxt hb)
  have Hu9 := Lib.hid (Hu8.out.nxt hb)
  have Hv9 := Lib.hid (Hv8.out.nxt hb)
  have HB9 := Lib.hid (below_nx HB8.out hb)
  clear hb
  clear x0 x1 x2 x3 p0 p1 p2 p3 q0 q1 q2 q3
  obtain ⟨x0, x1, x2, x3⟩ := cells4w Hx9.out
  obtain ⟨p0, p1, p2, p3⟩ := cells4w Hp9.out
  obtain ⟨q0, q1, q2, q3⟩ := cells4w Hq9.out
  go_wp2_with fail
  go_ret
  exact ⟨rfl, HB9.out⟩
end Go.Proofs.Ytjjneiidggcfdaa
set_option linter.unusedVariables false
namespace Go.Proofs.Ytjjneiidggcfdaa
open Go.RowKit

/-- The value is a slice that reads as the list. -/
def SlR (W : World) (v : Value) (n : Nat) (X : List Nat) : Prop := ∃ B d, v = .slice B n d ∧ Row W B (f64s X)
theorem SlR.below {W W' : World} {v : Value} {n : Nat} {X : List Nat} (h : SlR W v n X) (hb : Below W.heap.size W W') : SlR W' v n X := by
  obtain ⟨B, d, e, r⟩ := h
  exact ⟨B, d, e, r.below hb⟩
/-- The value is a slice of n numbers of which this holds. -/
def SlM (W : World) (v : Value) (n : Nat) (R : Nat → Nat → Prop) : Prop := ∃ m : List Nat, m.length = n ∧ (∀ q, q < n → R q (m.getD q 0)) ∧ SlR W v n m
theorem SlM.below {W W' : World} {v : Value} {n : Nat} {R : Nat → Nat → Prop} (h : SlM W v n R) (hb : Below W.heap.size W W') : SlM W' v n R := by
  obtain ⟨m, e, f, r⟩ := h
  exact ⟨m, e, f, r.below hb⟩
/-- The value is a slice of a list of its own of which this holds. -/
def SlO (W : World) (v : Value) (n : Nat) (S : List Nat → Prop) : Prop := ∃ g c m, v = .slice (some ⟨g, 0, none⟩) n c ∧ S m ∧ Own W g m
theorem SlO.below {W W' : World} {v : Value} {n : Nat} {S : List Nat → Prop} (h : SlO W v n S) (hb : Below W.heap.size W W') : SlO W' v n S := by
  obtain ⟨g, c, m, e, f, r⟩ := h
  exact ⟨g, c, m, e, f, r.nxt hb⟩
end Go.Proofs.Ytjjneiidggcfdaa
set_option linter.unusedVariables false
namespace Go.Proofs.Ytjjneiidggcfdaa
open Go.RowKit
attribute [local go_sem ↓] Go.wp_at_zero Go.wp_at_succ

def RetF (w : World) (n : Nat) (l : List Nat) (e : Ending) (w' : World) : Prop := ∃ g c', e = .returned (.slice (some ⟨g, 0, none⟩) n c') ∧ Own w' g l ∧ w.heap.size ≤ g ∧ Below w.heap.size w w'
theorem RetF.mk {w w' : World} {n g c' : Nat} {l : List Nat} {e : Ending} (h : e = .returned (.slice (some ⟨g, 0, none⟩) n c')) (h1 : Own w' g l) (h2 : w.heap.size ≤ g) (h3 : Below w.heap.size w w') : RetF w n l e w' := ⟨g, c', h, h1, h2, h3⟩
theorem rwrite_nil (c : Nat) (o i : Nat) (B : Option Addr) (d : Nat) (w : World) :
    Calls Try.prog 27 #[vec none 0 c o (0 : Nat) i, .slice B 0 d] w (RetF w 0 []) := by
  unfold vec
  go_enter Try.func27, Try.ntmps27
  go_wp2_with (at_builtin; refine wpList_append_nil _ rfl _ _ rfl rfl _ _ rfl rfl ?_)
  intro w' g c' hw' hg hc'
  have HB := Lib.hid (show Below w.heap.size w w' by rw [hw']; exact ((Below.refl w.heap.size w).alloc (Nat.le_refl _) (.cells #[.slice none 0 c, .int .i64 o, .int .i64 (0 : Nat), .int .i64 i] 30)).alloc (by simp) (.cells #[] 25))
  have H0 := Lib.hid (show Blk w' w.heap.size 30 #[.slice none 0 c, .int .i64 o, .int .i64 (0 : Nat), .int .i64 i] by rw [hw']; exact (Blk.new w 30 #[.slice none 0 c, .int .i64 o, .int .i64 (0 : Nat), .int .i64 i]).alloc (.cells #[] 25))
  have HO := Lib.hid (show Own w' g [] by rw [hw']; exact ⟨#[], Blk.new_ _ _ _ _ (by simp; omega), rfl⟩)
  have hg2 : w.heap.size ≤ g := by omega
  clear hw' hg hc'
  obtain ⟨k0, k1, k2, k3⟩ := cells4w H0.out
  go_wp2_with fail
  go_loop [6] (fun a => a = .int .i64 0) (fun a => 0)
  case atStart => rfl
  case round =>
    subst hrel
    go_wp2_with fail
    go_ret
    exact RetF.mk rfl HO.out hg2 HB.out

theorem rwrite_any (A : Option Addr) (n c : Nat) (l : List Nat) (o K i : Nat) (B : Option Addr) (d : Nat) (m : List Nat) (w : World) (hA : Row w A (f64s l)) (hl : l.length = n) (hn : n < 1048576) (hi1 : 1 ≤ i) (hr : K = 0 ∨ o + (K - 1) * i < n) (hB : Row w B (f64s m)) (hm : m.length = K) :
    Calls Try.prog 27 #[vec A n c o K i, .slice B K d] w fun e w' => ∃ g c', e = .returned (.slice (some ⟨g, 0, none⟩) n c') ∧ Own w' g (wrt l o i m K) ∧ w.heap.size ≤ g ∧ Below w.heap.size w w' := by
  cases A with
  | some a => exact rwrite_some a n c l o K i B d m w hA hl hn hi1 hr hB hm
  | none =>
    rcases hA with h | ⟨b, o', h, _⟩
    · obtain rfl : l = [] := by simpa [f64s] using h
      subst hl
      have hK : K = 0 := by
        rcases hr with h | h
        · exact h
        · simp at h
      subst hK
      exact rwrite_nil c o i B d w
    · cases h

theorem wds_set {l : List Nat} (h : Wds l) {v : Nat} (hv : v < 18446744073709551616) (p : Nat) : Wds (l.set p v) := by
  intro b hb
  rcases List.mem_or_eq_of_mem_set hb with h1 | h1
  · exact h b h1
  · subst h1; exact hv
theorem wds_getD {l : List Nat} (h : Wds l) (p : Nat) : l.getD p 0 < 18446744073709551616 := by
  rcases Nat.lt_or_ge p l.length with hl | hl
  · rw [getD_of_lt hl]; exact h _ (List.getElem_mem hl)
  · rw [getD_of_le hl]; decide
theorem wds_wrt {l q : List Nat} (h : Wds l) (hq : Wds q) (o i : Nat) : ∀ K, Wds (wrt l o i q K)
  | 0 => h
  | K + 1 => wds_set (wds_wrt h hq o i K) (wds_getD hq K) _

end Go.Proofs.Ytjjneiidggcfdaa
set_option linter.unusedVariables false
set_option linter.unusedSimpArgs false
set_option linter.unnecessarySimpa false
namespace Go.Proofs.Ytjjneiidggcfdaa
open Go.RowKit
attribute [local go_sem ↓] Go.wp_at_zero Go.wp_at_succ


theorem alike_set {x y : List Nat} (h : Alike x y) (i a b : Nat) (hab : sameB a b = true) : Alike (x.set i a) (y.set i b) := by
  refine ⟨by rw [List.length_set, List.length_set]; exact h.1, fun j hj hj' => ?_⟩
  by_cases e : i = j
  · subst e
    rw [List.getElem_set_self, List.getElem_set_self]
    exact hab
  · rw [List.getElem_set_ne e, List.getElem_set_ne e]
    exact h.2 j _ _
theorem alike_wrt (l : List Nat) (o i : Nat) {m m' : List Nat} : ∀ K, (∀ q, q < K → sameB (m.getD q 0) (m'.getD q 0) = true) → Alike (wrt l o i m K) (wrt l o i m' K)
  | 0, _ => Alike.refl l
  | K + 1, h => alike_set (alike_wrt l o i (m := m) (m' := m') K (fun q hq => h q (by omega))) (o + K * i) _ _ (h K (by omega))
theorem wds_of {m : List Nat} {K : Nat} (hm : m.length = K) (h : ∀ q, q < K → m.getD q 0 < 18446744073709551616) : Wds m := by
  intro b hb
  obtain ⟨j, hj, rfl⟩ := List.getElem_of_mem hb
  have := h j (by omega)
  rwa [getD_of_lt hj] at this
theorem AxR.lt {a : Nat} {l : List Nat} {o i : Nat} {l' : List Nat} {o' i' q r : Nat} (h : AxR a l o i l' o' i' q r) : r < 18446744073709551616 := by
  obtain ⟨p, _, h2⟩ := h; exact h2.1
theorem AxQ.lt {a : Nat} {l l' : List Nat} {q r : Nat} (h : AxQ a l l' q r) : r < 18446744073709551616 := by
  obtain ⟨p, _, h2⟩ := h; exact h2.1
end Go.Proofs.Ytjjneiidggcfdaa
set_option linter.unusedVariables false
set_option linter.unusedSimpArgs false
set_option linter.unnecessarySimpa false
namespace Go.Proofs.Ytjjneiidggcfdaa
open Go.RowKit
attribute [local go_sem ↓] Go.wp_at_zero Go.wp_at_succ


set_option maxRecDepth 100000 in
set_option maxHeartbeats 4000000 in
theorem axesScale_n (a : Nat) (A : Option Addr) (n c : Nat) (l : List Nat) (off k inc : Int) (Bk : Option Addr) (kn kc : Nat) (zs : List Int) (w : World) (hA : Row w A (f64s l)) (hW : Wds l) (hl : l.length = n) (hn : n ≤ 1000) (hk60 : k ≤ 60) (ho : I64 off) (hk : I64 k) (hi : I64 inc) (hZ : Row w Bk (i64s zs)) (hz : zs.length = kn) (hkn : kn ≤ 100) (o K i : Nat) (q1 : off = o) (q2 : k = K) (q3 : inc = i) (hi1 : 1 ≤ i) (hr : K = 0 ∨ o + (K - 1) * i < n) (ha : a < 18446744073709551616) (hRX : vecB n off k inc = true) (hkne : ¬ (kn : Int) = k) :
    Calls Try.prog 5 #[.float .f64 a, vec A n c off k inc, .slice Bk kn kc] w fun e w' => e = .returned (.bool true) ∧ Below w.heap.size w w' := by
  have HLg := Lib.hid (fun W => long_any A n c off k inc W)
  rw [show longB n k = false by unfold longB; simp; omega] at HLg
  have HAx := Lib.hid (fun W (hb : Below w.heap.size w W) => show Calls Try.prog 23 #[vec A n c off k inc] W fun e w' => ∃ g c', e = .returned (vec (some ⟨g, 0, none⟩) n c' off k inc) ∧ OwnS w' (fun cs => cs.toList.take (l).length = f64s l) g ∧ W.heap.size ≤ g ∧ Below W.heap.size W w' from by
    have := ralone_any A c l off k inc W (hA.below hb) (by omega)
    rw [hl] at this
    exact this.mono fun e w' ⟨g, c', e1, e2, e3, _, _, e4⟩ => ⟨g, c', e1, e2, e3, e4⟩)
  have HAll := Lib.hid (fun W (A B : Option Addr) (c d : Nat) (h1 : Row W A (f64s l)) (h2 : Row W B (f64s l)) => show Calls Try.prog 26 #[.slice A n c, .slice B n d] W fun e w' => e = .returned (.bool true) ∧ Below W.heap.size W w' from by
    have := rall_any A B c d l l W hW hW h1 h2 (by omega) (Alike.refl l)
    rw [hl] at this; exact this)
  have HRx := Lib.hid (fun W => show Calls Try.prog 33 #[vec A n c off k inc] W fun e w' => e = .returned (.bool true) ∧ Below W.heap.size W w' from by
    have := rright_any A n c off k inc W (by omega) ho hk hi
    rw [hRX] at this; exact this)
  have hk100 : ¬ (100 : Int) < (kn : Int) := by omega
  have HA := Lib.hid hA
  have HZ := Lib.hid hZ
  have HSc := Lib.hid (fun W (g c : Nat) (hO : Own W g l) => show Calls Try.prog 30 #[.float .f64 a, vec (some ⟨g, 0, none⟩) n c off k inc] W fun e w' => e = .returned (.int .i64 0) ∧ ∃ l', Own w' g l' ∧ (fun M => ∃ m : List Nat, m.length = K ∧ (∀ q, q < K → Comes .mul a (l.getD (o + q * i) 0) (m.getD q 0)) ∧ M = wrt l o i m K) l' ∧ Chg [g] W w' from by
    subst q1 q2 q3
    refine (axscal_ok a g c l n o K i W hO hl (by omega) hi1 hr ho hk hi hRX).mono ?_
    rintro e w' ⟨rfl, m, h1, h2, h3, h4⟩
    exact ⟨rfl, _, h3, ⟨m, h1, h2, rfl⟩, h4⟩)
  have HSh := Lib.hid (fun W (g c : Nat) (hO : Own W g l) (hZ : Row W Bk (i64s zs)) (hg : w.heap.size ≤ g) => show Calls Try.prog 31 #[vec (some ⟨g, 0, none⟩) n c off k inc, .slice Bk kn kc] W fun e w' => e = .returned (.int .i64 3) ∧ ∃ l', Own w' g l' ∧ (fun M => M = l) l' ∧ Chg [g] W w' from by
    refine (axshift_err _ Bk n c kn kc off k inc W (by omega) ho hk hi 3 (by unfold shfI; rw [hRX]; simp [hkne]) (by omega)).mono ?_
    rintro e w' ⟨rfl, hb⟩
    exact ⟨rfl, l, hO.nxt hb, rfl, Chg.of_below hb⟩)
  obtain ⟨X, hX⟩ : ∃ X, lst l o i K = X := ⟨_, rfl⟩
  have hXl : X.length = K := by rw [← hX, lst_length]
  have hXw : Wds X := by rw [← hX]; exact wds_lst2 hW _ _ _
  have hXq : ∀ q, q < K → X.getD q 0 = l.getD (o + q * i) 0 := fun q hq => by rw [← hX, lst_getD l o i hq]
  have hZlt : ∀ b y, Bk = some ⟨b, y, none⟩ → zs ≠ [] → b < w.heap.size := by
    intro b y e hne
    rcases hZ with h | ⟨b', y', e', hc⟩
    · exact absurd (by simpa [i64s] using h) hne
    · rw [e] at e'
      injection e' with e'
      injection e' with e1 e2
      subst e1
      cases zs with
      | nil => exact absurd rfl hne
      | cons z t => exact block_lt (hc 0 _ rfl)
  have HSg := Lib.hid (fun W (hb : Below w.heap.size w W) => show Calls Try.prog 32 #[vec A n c off k inc] W fun e w' => ∃ g m, e = .returned (.tuple #[.slice (some ⟨g, 0, none⟩) K K, .int .i64 0]) ∧ (m.length = K ∧ (∀ q, q < K → m.getD q 0 = sgnW (l.getD (o + q * i) 0))) ∧ Own w' g m ∧ Below W.heap.size W w' from by
    subst q1 q2 q3
    exact (axsign_ok A n c l o K i W (hA.below hb) hl (by omega) hi1 hr ho hk hi hRX).mono fun e w' ⟨g, m, h1, h2, h3, h4, h5⟩ => ⟨g, m, h1, ⟨h2, h3⟩, h4, h5⟩)
  have HLs := Lib.hid (fun W (hb : Below w.heap.size w W) => show Calls Try.prog 29 #[vec A n c off k inc] W fun e w' => ∃ B d, e = .returned (.slice B K d) ∧ Row w' B (f64s X) ∧ Below W.heap.size W w' from by
    subst q1 q2 q3
    rw [← hX]
    exact rlist_any A n c l o K i W (hA.below hb) hl (by omega) hr (by omega))
  have HrS := Lib.hid (fun W (B : Option Addr) (d : Nat) (h : Row W B (f64s X)) => rscal_any a B K d X W h hXl (by omega))
  have HrG := Lib.hid (fun W (B : Option Addr) (d : Nat) (h : Row W B (f64s X)) => rsign_any B K d X W h hXl (by omega))
  have HWr := Lib.hid (fun W (hb : Below w.heap.size w W) (B : Option Addr) (d : Nat) (m : List Nat) (hm : m.length = K) (hB : Row W B (f64s m)) => show Calls Try.prog 27 #[vec A n c off k inc, .slice B K d] W fun e w' => ∃ g c', e = .returned (.slice (some ⟨g, 0, none⟩) n c') ∧ Own w' g (wrt l o i m K) ∧ W.heap.size ≤ g ∧ Below W.heap.size W w' from by
    subst q1 q2 q3
    exact rwrite_any A n c l o K i B d m W (hA.below hb) hl (by omega) hi1 hr hB hm)
  have HFs := Lib.hid (fun W (A B : Option Addr) (c d : Nat) (m m' : List Nat) (hm : m.length = K) (hR : ∀ q, q < K → Comes .mul a (l.getD (o + q * i) 0) (m.getD q 0)) (hm' : m'.length = K) (hR' : ∀ q, q < K → Comes .mul a (X.getD q 0) (m'.getD q 0)) (h1 : Row W A (f64s (wrt l o i m K))) (h2 : Row W B (f64s (wrt l o i m' K))) =>
    show Calls Try.prog 26 #[.slice A n c, .slice B n d] W fun e w' => e = .returned (.bool true) ∧ Below W.heap.size W w' from by
      have hal := alike_wrt l o i (m := m) (m' := m') K (fun q hq => by
        have h1 := (hR q hq).is_ (Is.refl ha) (Is.refl (getD_wds hW _))
        have h2 := (hR' q hq).is_ (Is.refl ha) (Is.refl (getD_wds hXw _))
        rw [hXq q hq] at h2
        exact h1.same h2)
      have := rall_any A B c d _ _ W (wds_wrt hW (wds_of hm (fun q hq => (hR q hq).1)) _ _ _) (wds_wrt hW (wds_of hm' (fun q hq => (hR' q hq).1)) _ _ _) h1 h2 (by rw [wrt_length]; omega) hal
      rw [wrt_length, wrt_length, hl] at this
      exact this)
  have HFg := Lib.hid (fun W (A B : Option Addr) (c d : Nat) (m m' : List Nat) (hm : m.length = K) (hR : ∀ q, q < K → m.getD q 0 = sgnW (l.getD (o + q * i) 0)) (hm' : m'.length = K) (hR' : ∀ q, q < K → m'.getD q 0 = sgnW (X.getD q 0)) (h1 : Row W A (f64s m)) (h2 : Row W B (f64s m')) =>
    show Calls Try.prog 26 #[.slice A K c, .slice B K d] W fun e w' => e = .returned (.bool true) ∧ Below W.heap.size W w' from by
      have e : m = m' := ext_getD (by omega) (fun q hq => by rw [hR q (by omega), hR' q (by omega), hXq q (by omega)])
      subst e
      have hw := wds_of hm (fun q hq => by rw [hR q hq]; unfold sgnW; split <;> omega)
      have := rall_any A B c d _ _ W hw hw h1 h2 (by omega) (Alike.refl m)
      rw [hm] at this
      exact this)
  have hk1 : ((kn : Int) == k) = false := by simp [hkne]
  have hk2 : ((kn : Int) != k) = true := by simp [hkne]
  clear hA hW hl hn hk60 ho hk hi hZ hz hkn q1 q2 q3 hi1 hr hX hXl hXw hXq hZlt hRX ha hkne
  unfold vec at *
  go_enter Try.func5, Try.ntmps5
  have Hx0 := Lib.hid (Blk.new w 30 #[.slice A n c, .int .i64 off, .int .i64 k, .int .i64 inc])
  have HB0 := Lib.hid ((Below.refl w.heap.size w).alloc (Nat.le_refl _) (.cells #[.slice A n c, .int .i64 off, .int .i64 k, .int .i64 inc] 30))
  obtain ⟨x0, x1, x2, x3⟩ := cells4w Hx0.out
  go_wp2_with fail
  refine (awake6_any _).mono ?_
  rintro e w1 ⟨rfl, hb⟩
  have Hx1 := Lib.hid (Hx0.out.nxt hb)
  have HB1 := Lib.hid (below_nx HB0.out hb)
  clear hb
  clear x0 x1 x2 x3
  obtain ⟨x0, x1, x2, x3⟩ := cells4w Hx1.out
  go_wp2_with fail
  refine (HLg.out _).mono ?_
  rintro e w2 ⟨rfl, hb⟩
  have Hx2 := Lib.hid (Hx1.out.nxt hb)
  have HB2 := Lib.hid (below_nx HB1.out hb)
  clear hb
  clear x0 x1 x2 x3
  obtain ⟨x0, x1, x2, x3⟩ := cells4w Hx2.out
  go_wp2_with fail
  refine wp_region_inv [24, 25, 26, 27, 7, 8] (fun d s W => (d 0 = true → s 24 = .agg #[.slice A n c, .int .i64 off, .int .i64 k, .int .i64 inc]) ∧ (d 2 = true → s 26 = .agg #[.slice A n c, .int .i64 off, .int .i64 k, .int .i64 inc]) ∧ Twn w2.heap.size (fun cs => cs.toList.take (l).length = f64s l) (fun cs => cs.toList.take (l).length = f64s l) (fun g c => .agg #[.slice (some ⟨g, 0, none⟩) n c, .int .i64 off, .int .i64 k, .int .i64 inc]) (fun g c => .agg #[.slice (some ⟨g, 0, none⟩) n c, .int .i64 off, .int .i64 k, .int .i64 inc]) (d 1) (d 3) (s 25) (s 27) W ∧
    Two w2 30 #[.slice none 0 0, .int .i64 0, .int .i64 0, .int .i64 0] (cellsV (s 25)) (cellsV (s 27)) (d 4) (d 5) (d 6) (d 7) (s 7) (s 8) W ∧ (d 6 = true → d 4 = true ∧ d 1 = true) ∧ (d 7 = true → d 5 = true ∧ d 3 = true) ∧ (d 3 = true → d 1 = true))
    rfl (by kernel_rfl) ?_ ?_ ?_
  · exact ⟨by simp, by simp, fun h => by simp at h, ⟨(Below.refl _ _).drew, by simp, by simp, by simp⟩, by simp, by simp, by simp⟩
  · refine ⟨?_, ?_, ?_, ?_, ?_, ?_, ?_, ?_, trivial⟩
    all_goals
      intro d s W hJ hfr hd hdep
      simp only [List.mem_cons, forall_eq_or_imp, List.not_mem_nil, false_implies, implies_true, and_true, Region.binds] at hdep
      have f0 := hfr 4 (by decide)
      have f1 := hfr 4 (by decide)
      simp at f0 f1 hdep
      obtain ⟨h0, h2, hTw, hT, hx, hy, hv⟩ := hJ
      unfold OpSteps
    · obtain ⟨p0, p1, p2, p3⟩ := cells4w (Hx2.out.below hT.1 Hx2.out.lt)
      simp [go_sem, evS, f0, p0, p1, p2, p3]
      exact ⟨fun _ => by simp [sput], fun h => by simpa [sput] using h2 (by simpa [did] using h), by simpa [sput, did] using hTw, by simpa [sput, did] using hT, fun h => by simpa [did] using hx (by simpa [did] using h), fun h => by simpa [did] using hy (by simpa [did] using h), fun h => by simpa [did] using hv (by simpa [did] using h)⟩
    · have g0 := h0 (by simpa using hdep)
      have hd3 : d 3 = false := by
        cases h : d 3
        · rfl
        · have := hv h; rw [hd] at this; cases this
      have hd6 : d 6 = false := by
        cases h : d 6
        · rfl
        · have := (hx h).2; rw [hd] at this; cases this
      simp [go_sem, evS, g0]
      refine (HAx.out W (below_nx HB2.out hT.1)).mono ?_
      rintro e W' ⟨g, c9, rfl, ho, hg, hb⟩
      refine ⟨_, rfl, ?_⟩
      have hT2 := hT.nxt hb
      rw [hd6] at hT2
      have hT2 := hT2.chg1 (a' := cellsV (.agg #[.slice (some ⟨g, 0, none⟩) n c9, .int .i64 off, .int .i64 k, .int .i64 inc]))
      have hTw2 := Twn.first (Z := w2.heap.size) (S := (fun cs => cs.toList.take (l).length = f64s l)) (S' := (fun cs => cs.toList.take (l).length = f64s l)) (f := (fun g c => .agg #[.slice (some ⟨g, 0, none⟩) n c, .int .i64 off, .int .i64 k, .int .i64 inc])) (f' := (fun g c => .agg #[.slice (some ⟨g, 0, none⟩) n c, .int .i64 off, .int .i64 k, .int .i64 inc])) (d3 := false) (vb := s 27) (c := c9) ho (Nat.le_trans hT.1.size hg) rfl
      exact ⟨fun h => by simpa [sput] using h0 (by simpa [did] using h), fun h => by simpa [sput] using h2 (by simpa [did] using h), by simpa [sput, did, hd3] using hTw2, by simpa [sput, did, hd6] using hT2, fun h => by simp [did, hd6] at h, fun h => by simpa [did] using hy (by simpa [did] using h), fun h => by simp [did]⟩
    · obtain ⟨p0, p1, p2, p3⟩ := cells4w (Hx2.out.below hT.1 Hx2.out.lt)
      simp [go_sem, evS, f1, p0, p1, p2, p3]
      exact ⟨fun h => by simpa [sput] using h0 (by simpa [did] using h), fun _ => by simp [sput], by simpa [sput, did] using hTw, by simpa [sput, did] using hT, fun h => by simpa [did] using hx (by simpa [did] using h), fun h => by simpa [did] using hy (by simpa [did] using h), fun h => by simpa [did] using hv (by simpa [did] using h)⟩
    · have g0 := h2 (by simpa using hdep.1)
      have hd1 : d 1 = true := by simpa using hdep.2
      have hd7 : d 7 = false := by
        cases h : d 7
        · rfl
        · have := (hy h).2; rw [hd] at this; cases this
      simp [go_sem, evS, g0]
      refine (HAx.out W (below_nx HB2.out hT.1)).mono ?_
      rintro e W' ⟨g, c9, rfl, ho, hg, hb⟩
      refine ⟨_, rfl, ?_⟩
      have hT2 := hT.nxt hb
      rw [hd7] at hT2
      have hT2 := hT2.chg2 (b' := cellsV (.agg #[.slice (some ⟨g, 0, none⟩) n c9, .int .i64 off, .int .i64 k, .int .i64 inc]))
      rw [hd1, hd] at hTw
      have hTw2 := hTw.second hb (c' := c9) ho (Nat.le_trans hT.1.size hg) hg
      exact ⟨fun h => by simpa [sput] using h0 (by simpa [did] using h), fun h => by simpa [sput] using h2 (by simpa [did] using h), by simpa [sput, did, hd1] using hTw2, by simpa [sput, did, hd7] using hT2, fun h => by simpa [did] using hx (by simpa [did] using h), fun h => by simp [did, hd7] at h, fun h => by simpa [did] using hd1⟩
    · have hd6 : d 6 = false := by
        cases h : d 6
        · rfl
        · have := (hx h).1; rw [hd] at this; cases this
      rw [hd, hd6] at hT
      have hT2 := hT.alloc1
      have hTw2 := hTw.nxt (below_one (W := W) (o := .cells #[.slice none 0 0, .int .i64 0, .int .i64 0, .int .i64 0] 30))
      simp [go_sem, evS]
      exact ⟨fun h => by simpa [sput] using h0 (by simpa [did] using h), fun h => by simpa [sput] using h2 (by simpa [did] using h), by simpa [sput, did] using hTw2, by simpa [sput, did, hd6] using hT2, fun h => by simp [did, hd6] at h, fun h => by simpa [did] using hy (by simpa [did] using h), fun h => by simpa [did] using hv (by simpa [did] using h)⟩
    · have hd7 : d 7 = false := by
        cases h : d 7
        · rfl
        · have := (hy h).1; rw [hd] at this; cases this
      rw [hd, hd7] at hT
      have hT2 := hT.alloc2
      have hTw2 := hTw.nxt (below_one (W := W) (o := .cells #[.slice none 0 0, .int .i64 0, .int .i64 0, .int .i64 0] 30))
      simp [go_sem, evS]
      exact ⟨fun h => by simpa [sput] using h0 (by simpa [did] using h), fun h => by simpa [sput] using h2 (by simpa [did] using h), by simpa [sput, did] using hTw2, by simpa [sput, did, hd7] using hT2, fun h => by simpa [did] using hx (by simpa [did] using h), fun h => by simp [did, hd7] at h, fun h => by simpa [did] using hv (by simpa [did] using h)⟩
    · have e4 : d 4 = true := by simp [hdep]
      have e1 : d 1 = true := by simp [hdep]
      have hTw0 := hTw
      obtain ⟨gg, cc, hva, hO1, hZ1, hrest⟩ := hTw e1
      rw [hd, e4] at hT
      obtain ⟨p, hp, hp2, hpB⟩ := hT.2.1 rfl
      simp only [Bool.false_eq_true, if_false] at hpB
      obtain ⟨r0, r1, r2, r3⟩ := cells4w hpB
      obtain ⟨q0, q1, q2, q3⟩ := frozen4w hpB
      rw [hp] at hT
      have hfar : ∀ k9, k9 ≠ p → _ := fun k9 (hk9 : k9 ≠ p) => heap_sets4 (w := W) hk9 (.slice (some ⟨gg, 0, none⟩) n cc) (.int .i64 off) (.int .i64 k) (.int .i64 inc)
      have hst := hpB.store4v (.slice (some ⟨gg, 0, none⟩) n cc) (.int .i64 off) (.int .i64 k) (.int .i64 inc)
      have hT2 := hT.store1 (W' := ((((W.setCell ⟨p, 0, none⟩ (.slice (some ⟨gg, 0, none⟩) n cc)).setCell ⟨p, 1, none⟩ (.int .i64 off)).setCell ⟨p, 2, none⟩ (.int .i64 k)).setCell ⟨p, 3, none⟩ (.int .i64 inc))) hfar (by rw [hva]; exact hst) (rest_sets4 _ _ _ _ _ _ _ _ _)
      have hTw2 := hTw0.far hpB (by decide) hfar
      simp [go_sem, evS, hp, hva, r0, r1, r2, r3, q0, q1, q2, q3]
      exact ⟨fun h => by simpa [sput] using h0 (by simpa [did] using h), fun h => by simpa [sput] using h2 (by simpa [did] using h), by simpa [sput, did] using hTw2, by simpa [sput, did, hp, e4] using hT2, fun _ => by simp [did, e4, e1], fun h => by simpa [did] using hy (by simpa [did] using h), fun h => by simpa [did] using hv (by simpa [did] using h)⟩
    · have e5 : d 5 = true := by simp [hdep]
      have e1 : d 3 = true := by simp [hdep]
      have hTw0 := hTw
      obtain ⟨gg0, cc0, hva0, hO1, hZ1, hrest⟩ := hTw (hv e1)
      obtain ⟨gg, cc, hva, hO2, hZ2, hne2⟩ := hrest e1
      rw [hd, e5] at hT
      obtain ⟨p, hp, hp2, hpB⟩ := hT.2.2.1 rfl
      simp only [Bool.false_eq_true, if_false] at hpB
      obtain ⟨r0, r1, r2, r3⟩ := cells4w hpB
      obtain ⟨q0, q1, q2, q3⟩ := frozen4w hpB
      rw [hp] at hT
      have hfar : ∀ k9, k9 ≠ p → _ := fun k9 (hk9 : k9 ≠ p) => heap_sets4 (w := W) hk9 (.slice (some ⟨gg, 0, none⟩) n cc) (.int .i64 off) (.int .i64 k) (.int .i64 inc)
      have hst := hpB.store4v (.slice (some ⟨gg, 0, none⟩) n cc) (.int .i64 off) (.int .i64 k) (.int .i64 inc)
      have hT2 := hT.store2 (W' := ((((W.setCell ⟨p, 0, none⟩ (.slice (some ⟨gg, 0, none⟩) n cc)).setCell ⟨p, 1, none⟩ (.int .i64 off)).setCell ⟨p, 2, none⟩ (.int .i64 k)).setCell ⟨p, 3, none⟩ (.int .i64 inc))) hfar (by rw [hva]; exact hst) (rest_sets4 _ _ _ _ _ _ _ _ _)
      have hTw2 := hTw0.far hpB (by decide) hfar
      simp [go_sem, evS, hp, hva, r0, r1, r2, r3, q0, q1, q2, q3]
      exact ⟨fun h => by simpa [sput] using h0 (by simpa [did] using h), fun h => by simpa [sput] using h2 (by simpa [did] using h), by simpa [sput, did] using hTw2, by simpa [sput, did, hp, e5] using hT2, fun h => by simpa [did] using hx (by simpa [did] using h), fun _ => by simp [did, e5, e1], fun h => by simpa [did] using hv (by simpa [did] using h)⟩
  intro d s W hJ hd
  obtain ⟨_, _, hTw, hT, _, _, _⟩ := hJ
  obtain ⟨g1, c1, hsA, hO1, hZ1, hrest⟩ := hTw (hd 1 (by decide))
  obtain ⟨g2, c2, hsB, hO2, hZ2, hg12⟩ := hrest (hd 3 (by decide))
  obtain ⟨hb, hp, hq, hne⟩ := hT
  obtain ⟨p, hp, hp2, hpB⟩ := hp (hd 4 (by decide))
  obtain ⟨q, hq, hq2, hqB⟩ := hq (hd 5 (by decide))
  have hpq := hne (hd 4 (by decide)) (hd 5 (by decide))
  rw [hd 6 (by decide), hsA] at hpB
  rw [hd 7 (by decide), hsB] at hqB
  rw [hp, hq] at hpq
  have hpq2 : p ≠ q := fun e => hpq (by rw [e])
  simp only [if_true, cellsV] at hpB hqB
  clear hne hTw hrest hpq hd
  simp [setAll, hp, hq]
  clear hp hq hsA hsB
  generalize s 24 = s26
  generalize s 25 = s27
  generalize s 26 = s28
  generalize s 27 = s29
  have Hx3 := Lib.hid (Hx2.out.below hb Hx2.out.lt)
  have Hp3 := Lib.hid hpB
  have Hq3 := Lib.hid hqB
  have Hu3 := Lib.hid hO1
  have Hv3 := Lib.hid hO2
  have HB3 := Lib.hid (below_nx HB2.out hb)
  have Hg1g2 := Lib.hid hg12
  have hlo0 := Hx2.out.lt
  have Hpqz := Lib.hid (show w.heap.size < g1 ∧ w.heap.size < g2 ∧ w.heap.size < p ∧ w.heap.size < q by omega)
  have Hpq := Lib.hid hpq2
  clear hpB hqB hO1 hO2 hb hg12 hpq2 hZ1 hZ2 hp2 hq2 hlo0
  clear x0 x1 x2 x3
  obtain ⟨x0, x1, x2, x3⟩ := cells4w Hx3.out
  obtain ⟨p0, p1, p2, p3⟩ := cells4w Hp3.out
  obtain ⟨q0, q1, q2, q3⟩ := cells4w Hq3.out
  have Hu3' := Lib.hid (show Own W g1 l from Hu3.out)
  have Hv3' := Lib.hid (show Own W g2 l from Hv3.out)
  clear Hu3 Hv3
  have Hu3 := Hu3'
  have Hv3 := Hv3'
  clear Hu3' Hv3'
  go_wp2_with fail
  have HNp := Lib.hid (show p ∉ [g1, g2] by simp; exact ⟨fun e => own_ne Hu3.out Hp3.out (by decide) e.symm, fun e => own_ne Hv3.out Hp3.out (by decide) e.symm⟩)
  have HNq := Lib.hid (show q ∉ [g1, g2] by simp; exact ⟨fun e => own_ne Hu3.out Hq3.out (by decide) e.symm, fun e => own_ne Hv3.out Hq3.out (by decide) e.symm⟩)
  have HGz := Lib.hid (show ∀ g ∈ [g1, g2], w.heap.size ≤ g by have := Hpqz.out; simp; omega)
  have HNx := Lib.hid (show w.heap.size ∉ [g1, g2] by have := Hpqz.out; simp; omega)
  have HBo := Lib.hid (Both.start (W0 := W) (F1 := (fun M => ∃ m : List Nat, m.length = K ∧ (∀ q, q < K → Comes .mul a (l.getD (o + q * i) 0) (m.getD q 0)) ∧ M = wrt l o i m K)) (F2 := (fun M => M = l)) Hu3.out.drew Hv3.out.drew (Chg.refl _ W).drew)
  generalize W = W3 at *
  refine wp_region_inv [28, 29, 30, 31, 32, 33, 9, 10] (fun d s W => (d 0 = true → s 28 = .float .f64 a) ∧ (d 1 = true → s 29 = .agg #[.slice (some ⟨g1, 0, none⟩) n c1, .int .i64 off, .int .i64 k, .int .i64 inc]) ∧ (d 2 = true → s 30 = .int .i64 (0)) ∧ (d 3 = true → s 31 = .agg #[.slice (some ⟨g2, 0, none⟩) n c2, .int .i64 off, .int .i64 k, .int .i64 inc]) ∧ (d 4 = true → s 32 = .slice Bk kn kc) ∧ (d 5 = true → s 33 = .int .i64 (3)) ∧ (d 6 = true → s 9 = .int .i64 (0)) ∧ (d 7 = true → s 10 = .int .i64 (3)) ∧ Both W3 l (fun M => ∃ m : List Nat, m.length = K ∧ (∀ q, q < K → Comes .mul a (l.getD (o + q * i) 0) (m.getD q 0)) ∧ M = wrt l o i m K) (fun M => M = l) g1 g2 (d 2) (d 5) W)
    rfl (by kernel_rfl) ?_ ?_ ?_
  · exact ⟨by simp, by simp, by simp, by simp, by simp, by simp, by simp, by simp, HBo.out⟩
  · refine ⟨?_, ?_, ?_, ?_, ?_, ?_, ?_, ?_, trivial⟩
    all_goals
      intro d s W hJ hfr hd hdep
      simp only [List.mem_cons, forall_eq_or_imp, List.not_mem_nil, false_implies, implies_true, and_true, Region.binds] at hdep
      have f0 := hfr 0 (by decide)
      have f2 := hfr 2 (by decide)
      have f7 := hfr 7 (by decide)
      have f8 := hfr 8 (by decide)
      simp at f0 f2 f7 f8 hdep
      obtain ⟨h0, h1, h2, h3, h4, h5, h6, h7, hT⟩ := hJ
    · unfold OpSteps
      simp [go_sem, evS, f0]
      exact ⟨fun _ => by simp [sput], fun h => by simpa [sput] using h1 (by simpa [did] using h), fun h => by simpa [sput] using h2 (by simpa [did] using h), fun h => by simpa [sput] using h3 (by simpa [did] using h), fun h => by simpa [sput] using h4 (by simpa [did] using h), fun h => by simpa [sput] using h5 (by simpa [did] using h), fun h => by simpa [sput] using h6 (by simpa [did] using h), fun h => by simpa [sput] using h7 (by simpa [did] using h), by simpa [did] using hT⟩
    · unfold OpSteps
      obtain ⟨p0, p1, p2, p3⟩ := cells4w (hT.chg.blk HNp.out Hp3.out)
      simp [go_sem, evS, f7, p0, p1, p2, p3]
      exact ⟨fun h => by simpa [sput] using h0 (by simpa [did] using h), fun _ => by simp [sput], fun h => by simpa [sput] using h2 (by simpa [did] using h), fun h => by simpa [sput] using h3 (by simpa [did] using h), fun h => by simpa [sput] using h4 (by simpa [did] using h), fun h => by simpa [sput] using h5 (by simpa [did] using h), fun h => by simpa [sput] using h6 (by simpa [did] using h), fun h => by simpa [sput] using h7 (by simpa [did] using h), by simpa [did] using hT⟩
    · have fa0 := h0 (by simp [hdep])
      have fa1 := h1 (by simp [hdep])
      unfold OpSteps
      rw [hd] at hT
      simp [go_sem, evS, fa0, fa1]
      refine (HSc.out W g1 c1 hT.one).mono ?_
      rintro e W' ⟨rfl, l', ho, hF, hc⟩
      refine ⟨_, rfl, ?_⟩
      exact ⟨fun h => by simpa [sput] using h0 (by simpa [did] using h), fun h => by simpa [sput] using h1 (by simpa [did] using h), fun _ => by simp [sput], fun h => by simpa [sput] using h3 (by simpa [did] using h), fun h => by simpa [sput] using h4 (by simpa [did] using h), fun h => by simpa [sput] using h5 (by simpa [did] using h), fun h => by simpa [sput] using h6 (by simpa [did] using h), fun h => by simpa [sput] using h7 (by simpa [did] using h), by have h9 := hT.first Hg1g2.out ho hF hc; simpa [did] using h9⟩
    · unfold OpSteps
      obtain ⟨p0, p1, p2, p3⟩ := cells4w (hT.chg.blk HNq.out Hq3.out)
      simp [go_sem, evS, f8, p0, p1, p2, p3]
      exact ⟨fun h => by simpa [sput] using h0 (by simpa [did] using h), fun h => by simpa [sput] using h1 (by simpa [did] using h), fun h => by simpa [sput] using h2 (by simpa [did] using h), fun _ => by simp [sput], fun h => by simpa [sput] using h4 (by simpa [did] using h), fun h => by simpa [sput] using h5 (by simpa [did] using h), fun h => by simpa [sput] using h6 (by simpa [did] using h), fun h => by simpa [sput] using h7 (by simpa [did] using h), by simpa [did] using hT⟩
    · unfold OpSteps
      simp [go_sem, evS, f2]
      exact ⟨fun h => by simpa [sput] using h0 (by simpa [did] using h), fun h => by simpa [sput] using h1 (by simpa [did] using h), fun h => by simpa [sput] using h2 (by simpa [did] using h), fun h => by simpa [sput] using h3 (by simpa [did] using h), fun _ => by simp [sput], fun h => by simpa [sput] using h5 (by simpa [did] using h), fun h => by simpa [sput] using h6 (by simpa [did] using h), fun h => by simpa [sput] using h7 (by simpa [did] using h), by simpa [did] using hT⟩
    · have fa3 := h3 (by simp [hdep])
      have fa4 := h4 (by simp [hdep])
      unfold OpSteps
      rw [hd] at hT
      simp [go_sem, evS, fa3, fa4]
      refine (HSh.out W g2 c2 hT.two (chg_row HZ.out HB3.out hT.chg HGz.out) (HGz.out g2 (by simp))).mono ?_
      rintro e W' ⟨rfl, l', ho, hF, hc⟩
      refine ⟨_, rfl, ?_⟩
      exact ⟨fun h => by simpa [sput] using h0 (by simpa [did] using h), fun h => by simpa [sput] using h1 (by simpa [did] using h), fun h => by simpa [sput] using h2 (by simpa [did] using h), fun h => by simpa [sput] using h3 (by simpa [did] using h), fun h => by simpa [sput] using h4 (by simpa [did] using h), fun _ => by simp [sput], fun h => by simpa [sput] using h6 (by simpa [did] using h), fun h => by simpa [sput] using h7 (by simpa [did] using h), by have h9 := hT.second Hg1g2.out ho hF hc; simpa [did] using h9⟩
    · have fa2 := h2 (by simp [hdep])
      unfold OpSteps
      simp [go_sem, evS, fa2]
      exact ⟨fun h => by simpa [sput] using h0 (by simpa [did] using h), fun h => by simpa [sput] using h1 (by simpa [did] using h), fun h => by simpa [sput] using h2 (by simpa [did] using h), fun h => by simpa [sput] using h3 (by simpa [did] using h), fun h => by simpa [sput] using h4 (by simpa [did] using h), fun h => by simpa [sput] using h5 (by simpa [did] using h), fun _ => by simp [sput], fun h => by simpa [sput] using h7 (by simpa [did] using h), by simpa [did] using hT⟩
    · have fa5 := h5 (by simp [hdep])
      unfold OpSteps
      simp [go_sem, evS, fa5]
      exact ⟨fun h => by simpa [sput] using h0 (by simpa [did] using h), fun h => by simpa [sput] using h1 (by simpa [did] using h), fun h => by simpa [sput] using h2 (by simpa [did] using h), fun h => by simpa [sput] using h3 (by simpa [did] using h), fun h => by simpa [sput] using h4 (by simpa [did] using h), fun h => by simpa [sput] using h5 (by simpa [did] using h), fun h => by simpa [sput] using h6 (by simpa [did] using h), fun _ => by simp [sput], by simpa [did] using hT⟩
  intro d s W hJ hd
  obtain ⟨h0, h1, h2, h3, h4, h5, h6, h7, hT⟩ := hJ
  have h11 := h6 (hd 6 (by decide))
  have h12 := h7 (hd 7 (by decide))
  rw [hd 2 (by decide), hd 5 (by decide)] at hT
  obtain ⟨la, lb, hoa, hob, hfa, hfb, hcc⟩ := hT
  clear h0 h1 h2 h3 h4 h5 h6 h7 hd
  simp only [if_true] at hfa hfb
  have Hu4 := Lib.hid hoa
  have Hv4 := Lib.hid hob
  have HFa := Lib.hid hfa
  have HFb := Lib.hid hfb
  have Hp4 := Lib.hid (hcc.blk HNp.out Hp3.out)
  have Hq4 := Lib.hid (hcc.blk HNq.out Hq3.out)
  have Hx4 := Lib.hid (hcc.blk HNx.out Hx3.out)
  have HB4 := Lib.hid (hcc.below HB3.out HB3.out.size (fun x hx => HGz.out x hx))
  clear hoa hob hfa hfb hcc
  simp [setAll, h11, h12]
  clear h11 h12
  generalize s 28 = s28
  generalize s 29 = s29
  generalize s 30 = s30
  generalize s 31 = s31
  generalize s 32 = s32
  generalize s 33 = s33
  generalize W = w5 at *
  clear x0 x1 x2 x3 p0 p1 p2 p3 q0 q1 q2 q3
  obtain ⟨x0, x1, x2, x3⟩ := cells4w Hx4.out
  obtain ⟨p0, p1, p2, p3⟩ := cells4w Hp4.out
  obtain ⟨q0, q1, q2, q3⟩ := cells4w Hq4.out
  go_wp2_with fail
  refine (HSg.out _ HB4.out).mono ?_
  rintro e w6 ⟨g3, ms, rfl, hms, ho3, hb⟩
  have HMs := Lib.hid hms
  clear hms
  have Hx5 := Lib.hid (Hx4.out.nxt hb)
  have Hp5 := Lib.hid (Hp4.out.nxt hb)
  have Hq5 := Lib.hid (Hq4.out.nxt hb)
  have Hu5 := Lib.hid (Hu4.out.nxt hb)
  have Hv5 := Lib.hid (Hv4.out.nxt hb)
  have HB5 := Lib.hid (below_nx HB4.out hb)
  clear hb
  clear x0 x1 x2 x3 p0 p1 p2 p3 q0 q1 q2 q3
  obtain ⟨x0, x1, x2, x3⟩ := cells4w Hx5.out
  obtain ⟨p0, p1, p2, p3⟩ := cells4w Hp5.out
  obtain ⟨q0, q1, q2, q3⟩ := cells4w Hq5.out
  have Hs5 := Lib.hid ho3
  clear ho3
  go_wp2_with fail
  refine (HRx.out _).mono ?_
  rintro e w7 ⟨rfl, hb⟩
  have Hx6 := Lib.hid (Hx5.out.nxt hb)
  have Hp6 := Lib.hid (Hp5.out.nxt hb)
  have Hq6 := Lib.hid (Hq5.out.nxt hb)
  have Hu6 := Lib.hid (Hu5.out.nxt hb)
  have Hv6 := Lib.hid (Hv5.out.nxt hb)
  have Hs6 := Lib.hid (Hs5.out.nxt hb)
  have HB6 := Lib.hid (below_nx HB5.out hb)
  clear hb
  clear x0 x1 x2 x3 p0 p1 p2 p3 q0 q1 q2 q3
  obtain ⟨x0, x1, x2, x3⟩ := cells4w Hx6.out
  obtain ⟨p0, p1, p2, p3⟩ := cells4w Hp6.out
  obtain ⟨q0, q1, q2, q3⟩ := cells4w Hq6.out
  go_wp2_with fail
  refine (HLs.out _ HB6.out).mono ?_
  rintro e w8 ⟨LA, dA, rfl, hrL, hb⟩
  have Hx7 := Lib.hid (Hx6.out.nxt hb)
  have Hp7 := Lib.hid (Hp6.out.nxt hb)
  have Hq7 := Lib.hid (Hq6.out.nxt hb)
  have Hu7 := Lib.hid (Hu6.out.nxt hb)
  have Hv7 := Lib.hid (Hv6.out.nxt hb)
  have Hs7 := Lib.hid (Hs6.out.nxt hb)
  have HB7 := Lib.hid (below_nx HB6.out hb)
  clear hb
  clear x0 x1 x2 x3 p0 p1 p2 p3 q0 q1 q2 q3
  obtain ⟨x0, x1, x2, x3⟩ := cells4w Hx7.out
  obtain ⟨p0, p1, p2, p3⟩ := cells4w Hp7.out
  obtain ⟨q0, q1, q2, q3⟩ := cells4w Hq7.out
  have HL7 := Lib.hid hrL
  clear hrL
  obtain ⟨m1, hm1, hR1, hla⟩ := HFa.out
  subst hla
  have HM1 := Lib.hid (And.intro hm1 hR1)
  clear hm1 hR1
  go_wp2_with fail
  refine wp_region_invG [76, 77, 78, 79, 80, 81, 82, 83, 84, 85, 86, 87, 88, 89, 90, 91, 92, 93, 94, 95, 96, 97, 98, 99] (fun d s W => (d 0 = true → s 76 = .int .i64 0) ∧ (d 1 = true → s 77 = .bool false) ∧ (d 2 = true → s 78 = .bool false) ∧ (d 3 = true → s 79 = .int .i64 0) ∧ (d 4 = true → s 80 = .bool false) ∧ (d 5 = true → s 81 = .bool false) ∧ (d 6 = true → s 82 = .bool false) ∧ (d 7 = true → s 83 = .pointer (some ⟨p, 0, none⟩)) ∧ (d 8 = true → s 84 = .slice (some ⟨g1, 0, none⟩) n c1) ∧ (d 9 = true → s 85 = .agg #[.slice A n c, .int .i64 off, .int .i64 k, .int .i64 inc]) ∧ (d 10 = true → s 86 = .float .f64 a) ∧ (d 11 = true → s 87 = .slice LA K dA) ∧ (d 12 = true → SlM W (s 88) K (fun q r => Comes .mul a (X.getD q 0) r)) ∧ (d 13 = true → SlO W (s 89) n (fun M => ∃ m' : List Nat, m'.length = K ∧ (∀ q, q < K → Comes .mul a (X.getD q 0) (m'.getD q 0)) ∧ M = wrt l o i m' K)) ∧ (d 14 = true → s 90 = .bool true) ∧ (d 15 = true → s 91 = .bool false) ∧ (d 16 = true → s 92 = .bool false) ∧ (d 17 = true → s 93 = .bool false) ∧ (d 18 = true → s 94 = .slice (some ⟨g3, 0, none⟩) K K) ∧ (d 19 = true → s 95 = .slice LA K dA) ∧ (d 20 = true → SlM W (s 96) K (fun q r => r = sgnW (X.getD q 0))) ∧ (d 21 = true → s 97 = .bool true) ∧ (d 22 = true → s 98 = .bool false) ∧ (d 23 = true → s 99 = .bool false) ∧ Below w8.heap.size w8 W)
    rfl (by kernel_rfl) ?_ ?_ ?_
  · exact ⟨by simp, by simp, by simp, by simp, by simp, by simp, by simp, by simp, by simp, by simp, by simp, by simp, by simp, by simp, by simp, by simp, by simp, by simp, by simp, by simp, by simp, by simp, by simp, by simp, (Below.refl _ _).drew⟩
  · refine ⟨?_, ?_, ?_, ?_, ?_, ?_, ?_, ?_, ?_, ?_, ?_, ?_, ?_, ?_, ?_, ?_, ?_, ?_, ?_, ?_, ?_, ?_, ?_, ?_, trivial⟩
    all_goals
      intro d s W hJ hfr hd hdep
      simp only [List.mem_cons, forall_eq_or_imp, List.not_mem_nil, false_implies, implies_true, and_true, Region.binds] at hdep
      have f0 := hfr 0 (by decide)
      have f4 := hfr 4 (by decide)
      have f7 := hfr 7 (by decide)
      have f9 := hfr 9 (by decide)
      have f11 := hfr 11 (by decide)
      have f12 := hfr 12 (by decide)
      have f13 := hfr 13 (by decide)
      simp at f0 f4 f7 f9 f11 f12 f13 hdep
      obtain ⟨h0, h1, h2, h3, h4, h5, h6, h7, h8, h9, h10, h11, h12, h13, h14, h15, h16, h17, h18, h19, h20, h21, h22, h23, hT⟩ := hJ
    · refine stepG_plain rfl ?_
      unfold OpSteps
      simp [go_sem, evS, f9]
      exact ⟨fun _ => by simp [sput], fun h => by simpa [sput] using h1 (by simpa [did] using h), fun h => by simpa [sput] using h2 (by simpa [did] using h), fun h => by simpa [sput] using h3 (by simpa [did] using h), fun h => by simpa [sput] using h4 (by simpa [did] using h), fun h => by simpa [sput] using h5 (by simpa [did] using h), fun h => by simpa [sput] using h6 (by simpa [did] using h), fun h => by simpa [sput] using h7 (by simpa [did] using h), fun h => by simpa [sput] using h8 (by simpa [did] using h), fun h => by simpa [sput] using h9 (by simpa [did] using h), fun h => by simpa [sput] using h10 (by simpa [did] using h), fun h => by simpa [sput] using h11 (by simpa [did] using h), fun h => by simpa [sput] using h12 (by simpa [did] using h), fun h => by simpa [sput] using h13 (by simpa [did] using h), fun h => by simpa [sput] using h14 (by simpa [did] using h), fun h => by simpa [sput] using h15 (by simpa [did] using h), fun h => by simpa [sput] using h16 (by simpa [did] using h), fun h => by simpa [sput] using h17 (by simpa [did] using h), fun h => by simpa [sput] using h18 (by simpa [did] using h), fun h => by simpa [sput] using h19 (by simpa [did] using h), fun h => by simpa [sput] using h20 (by simpa [did] using h), fun h => by simpa [sput] using h21 (by simpa [did] using h), fun h => by simpa [sput] using h22 (by simpa [did] using h), fun h => by simpa [sput] using h23 (by simpa [did] using h), hT⟩
    · have g0 := h0 (by simp [hdep])
      refine stepG_plain rfl ?_
      unfold OpSteps
      simp [go_sem, evS, g0]
      exact ⟨fun h => by simpa [sput] using h0 (by simpa [did] using h), fun _ => by simp [sput], fun h => by simpa [sput] using h2 (by simpa [did] using h), fun h => by simpa [sput] using h3 (by simpa [did] using h), fun h => by simpa [sput] using h4 (by simpa [did] using h), fun h => by simpa [sput] using h5 (by simpa [did] using h), fun h => by simpa [sput] using h6 (by simpa [did] using h), fun h => by simpa [sput] using h7 (by simpa [did] using h), fun h => by simpa [sput] using h8 (by simpa [did] using h), fun h => by simpa [sput] using h9 (by simpa [did] using h), fun h => by simpa [sput] using h10 (by simpa [did] using h), fun h => by simpa [sput] using h11 (by simpa [did] using h), fun h => by simpa [sput] using h12 (by simpa [did] using h), fun h => by simpa [sput] using h13 (by simpa [did] using h), fun h => by simpa [sput] using h14 (by simpa [did] using h), fun h => by simpa [sput] using h15 (by simpa [did] using h), fun h => by simpa [sput] using h16 (by simpa [did] using h), fun h => by simpa [sput] using h17 (by simpa [did] using h), fun h => by simpa [sput] using h18 (by simpa [did] using h), fun h => by simpa [sput] using h19 (by simpa [did] using h), fun h => by simpa [sput] using h20 (by simpa [did] using h), fun h => by simpa [sput] using h21 (by simpa [did] using h), fun h => by simpa [sput] using h22 (by simpa [did] using h), fun h => by simpa [sput] using h23 (by simpa [did] using h), hT⟩
    · have g1 := h1 (by simp [hdep])
      refine stepG_plain rfl ?_
      unfold OpSteps
      simp [go_sem, evS, g1]
      exact ⟨fun h => by simpa [sput] using h0 (by simpa [did] using h), fun h => by simpa [sput] using h1 (by simpa [did] using h), fun _ => by simp [sput], fun h => by simpa [sput] using h3 (by simpa [did] using h), fun h => by simpa [sput] using h4 (by simpa [did] using h), fun h => by simpa [sput] using h5 (by simpa [did] using h), fun h => by simpa [sput] using h6 (by simpa [did] using h), fun h => by simpa [sput] using h7 (by simpa [did] using h), fun h => by simpa [sput] using h8 (by simpa [did] using h), fun h => by simpa [sput] using h9 (by simpa [did] using h), fun h => by simpa [sput] using h10 (by simpa [did] using h), fun h => by simpa [sput] using h11 (by simpa [did] using h), fun h => by simpa [sput] using h12 (by simpa [did] using h), fun h => by simpa [sput] using h13 (by simpa [did] using h), fun h => by simpa [sput] using h14 (by simpa [did] using h), fun h => by simpa [sput] using h15 (by simpa [did] using h), fun h => by simpa [sput] using h16 (by simpa [did] using h), fun h => by simpa [sput] using h17 (by simpa [did] using h), fun h => by simpa [sput] using h18 (by simpa [did] using h), fun h => by simpa [sput] using h19 (by simpa [did] using h), fun h => by simpa [sput] using h20 (by simpa [did] using h), fun h => by simpa [sput] using h21 (by simpa [did] using h), fun h => by simpa [sput] using h22 (by simpa [did] using h), fun h => by simpa [sput] using h23 (by simpa [did] using h), hT⟩
    · have g2 := h2 (by simp [hdep])
      refine stepG_on 2 78 false rfl rfl g2 ?_
      unfold OpSteps
      simp [go_sem, evS, f12, g2]
      exact ⟨fun h => by simpa [sput] using h0 (by simpa [did] using h), fun h => by simpa [sput] using h1 (by simpa [did] using h), fun h => by simpa [sput] using h2 (by simpa [did] using h), fun _ => by simp [sput], fun h => by simpa [sput] using h4 (by simpa [did] using h), fun h => by simpa [sput] using h5 (by simpa [did] using h), fun h => by simpa [sput] using h6 (by simpa [did] using h), fun h => by simpa [sput] using h7 (by simpa [did] using h), fun h => by simpa [sput] using h8 (by simpa [did] using h), fun h => by simpa [sput] using h9 (by simpa [did] using h), fun h => by simpa [sput] using h10 (by simpa [did] using h), fun h => by simpa [sput] using h11 (by simpa [did] using h), fun h => by simpa [sput] using h12 (by simpa [did] using h), fun h => by simpa [sput] using h13 (by simpa [did] using h), fun h => by simpa [sput] using h14 (by simpa [did] using h), fun h => by simpa [sput] using h15 (by simpa [did] using h), fun h => by simpa [sput] using h16 (by simpa [did] using h), fun h => by simpa [sput] using h17 (by simpa [did] using h), fun h => by simpa [sput] using h18 (by simpa [did] using h), fun h => by simpa [sput] using h19 (by simpa [did] using h), fun h => by simpa [sput] using h20 (by simpa [did] using h), fun h => by simpa [sput] using h21 (by simpa [did] using h), fun h => by simpa [sput] using h22 (by simpa [did] using h), fun h => by simpa [sput] using h23 (by simpa [did] using h), hT⟩
    · have g3 := h3 (by simp [hdep])
      have g2 := h2 (by simp [hdep])
      refine stepG_on 2 78 false rfl rfl g2 ?_
      unfold OpSteps
      simp [go_sem, evS, g3, g2]
      exact ⟨fun h => by simpa [sput] using h0 (by simpa [did] using h), fun h => by simpa [sput] using h1 (by simpa [did] using h), fun h => by simpa [sput] using h2 (by simpa [did] using h), fun h => by simpa [sput] using h3 (by simpa [did] using h), fun _ => by simp [sput], fun h => by simpa [sput] using h5 (by simpa [did] using h), fun h => by simpa [sput] using h6 (by simpa [did] using h), fun h => by simpa [sput] using h7 (by simpa [did] using h), fun h => by simpa [sput] using h8 (by simpa [did] using h), fun h => by simpa [sput] using h9 (by simpa [did] using h), fun h => by simpa [sput] using h10 (by simpa [did] using h), fun h => by simpa [sput] using h11 (by simpa [did] using h), fun h => by simpa [sput] using h12 (by simpa [did] using h), fun h => by simpa [sput] using h13 (by simpa [did] using h), fun h => by simpa [sput] using h14 (by simpa [did] using h), fun h => by simpa [sput] using h15 (by simpa [did] using h), fun h => by simpa [sput] using h16 (by simpa [did] using h), fun h => by simpa [sput] using h17 (by simpa [did] using h), fun h => by simpa [sput] using h18 (by simpa [did] using h), fun h => by simpa [sput] using h19 (by simpa [did] using h), fun h => by simpa [sput] using h20 (by simpa [did] using h), fun h => by simpa [sput] using h21 (by simpa [did] using h), fun h => by simpa [sput] using h22 (by simpa [did] using h), fun h => by simpa [sput] using h23 (by simpa [did] using h), hT⟩
    · have g2 := h2 (by simp [hdep])
      have g4 := h4 (by simp [hdep])
      refine stepG_plain rfl ?_
      unfold OpSteps
      simp [go_sem, evS, g2, g4]
      exact ⟨fun h => by simpa [sput] using h0 (by simpa [did] using h), fun h => by simpa [sput] using h1 (by simpa [did] using h), fun h => by simpa [sput] using h2 (by simpa [did] using h), fun h => by simpa [sput] using h3 (by simpa [did] using h), fun h => by simpa [sput] using h4 (by simpa [did] using h), fun _ => by simp [sput], fun h => by simpa [sput] using h6 (by simpa [did] using h), fun h => by simpa [sput] using h7 (by simpa [did] using h), fun h => by simpa [sput] using h8 (by simpa [did] using h), fun h => by simpa [sput] using h9 (by simpa [did] using h), fun h => by simpa [sput] using h10 (by simpa [did] using h), fun h => by simpa [sput] using h11 (by simpa [did] using h), fun h => by simpa [sput] using h12 (by simpa [did] using h), fun h => by simpa [sput] using h13 (by simpa [did] using h), fun h => by simpa [sput] using h14 (by simpa [did] using h), fun h => by simpa [sput] using h15 (by simpa [did] using h), fun h => by simpa [sput] using h16 (by simpa [did] using h), fun h => by simpa [sput] using h17 (by simpa [did] using h), fun h => by simpa [sput] using h18 (by simpa [did] using h), fun h => by simpa [sput] using h19 (by simpa [did] using h), fun h => by simpa [sput] using h20 (by simpa [did] using h), fun h => by simpa [sput] using h21 (by simpa [did] using h), fun h => by simpa [sput] using h22 (by simpa [did] using h), fun h => by simpa [sput] using h23 (by simpa [did] using h), hT⟩
    · have g5 := h5 (by simp [hdep])
      refine stepG_plain rfl ?_
      unfold OpSteps
      simp [go_sem, evS, g5]
      exact ⟨fun h => by simpa [sput] using h0 (by simpa [did] using h), fun h => by simpa [sput] using h1 (by simpa [did] using h), fun h => by simpa [sput] using h2 (by simpa [did] using h), fun h => by simpa [sput] using h3 (by simpa [did] using h), fun h => by simpa [sput] using h4 (by simpa [did] using h), fun h => by simpa [sput] using h5 (by simpa [did] using h), fun _ => by simp [sput], fun h => by simpa [sput] using h7 (by simpa [did] using h), fun h => by simpa [sput] using h8 (by simpa [did] using h), fun h => by simpa [sput] using h9 (by simpa [did] using h), fun h => by simpa [sput] using h10 (by simpa [did] using h), fun h => by simpa [sput] using h11 (by simpa [did] using h), fun h => by simpa [sput] using h12 (by simpa [did] using h), fun h => by simpa [sput] using h13 (by simpa [did] using h), fun h => by simpa [sput] using h14 (by simpa [did] using h), fun h => by simpa [sput] using h15 (by simpa [did] using h), fun h => by simpa [sput] using h16 (by simpa [did] using h), fun h => by simpa [sput] using h17 (by simpa [did] using h), fun h => by simpa [sput] using h18 (by simpa [did] using h), fun h => by simpa [sput] using h19 (by simpa [did] using h), fun h => by simpa [sput] using h20 (by simpa [did] using h), fun h => by simpa [sput] using h21 (by simpa [did] using h), fun h => by simpa [sput] using h22 (by simpa [did] using h), fun h => by simpa [sput] using h23 (by simpa [did] using h), hT⟩
    · have g6 := h6 (by simp [hdep])
      refine stepG_on 6 82 false rfl rfl g6 ?_
      unfold OpSteps
      simp [go_sem, evS, f7, g6]
      exact ⟨fun h => by simpa [sput] using h0 (by simpa [did] using h), fun h => by simpa [sput] using h1 (by simpa [did] using h), fun h => by simpa [sput] using h2 (by simpa [did] using h), fun h => by simpa [sput] using h3 (by simpa [did] using h), fun h => by simpa [sput] using h4 (by simpa [did] using h), fun h => by simpa [sput] using h5 (by simpa [did] using h), fun h => by simpa [sput] using h6 (by simpa [did] using h), fun _ => by simp [sput], fun h => by simpa [sput] using h8 (by simpa [did] using h), fun h => by simpa [sput] using h9 (by simpa [did] using h), fun h => by simpa [sput] using h10 (by simpa [did] using h), fun h => by simpa [sput] using h11 (by simpa [did] using h), fun h => by simpa [sput] using h12 (by simpa [did] using h), fun h => by simpa [sput] using h13 (by simpa [did] using h), fun h => by simpa [sput] using h14 (by simpa [did] using h), fun h => by simpa [sput] using h15 (by simpa [did] using h), fun h => by simpa [sput] using h16 (by simpa [did] using h), fun h => by simpa [sput] using h17 (by simpa [did] using h), fun h => by simpa [sput] using h18 (by simpa [did] using h), fun h => by simpa [sput] using h19 (by simpa [did] using h), fun h => by simpa [sput] using h20 (by simpa [did] using h), fun h => by simpa [sput] using h21 (by simpa [did] using h), fun h => by simpa [sput] using h22 (by simpa [did] using h), fun h => by simpa [sput] using h23 (by simpa [did] using h), hT⟩
    · have g7 := h7 (by simp [hdep])
      have g6 := h6 (by simp [hdep])
      refine stepG_on 6 82 false rfl rfl g6 ?_
      unfold OpSteps
      obtain ⟨p0, p1, p2, p3⟩ := cells4w (Hp7.out.below hT Hp7.out.lt)
      simp [go_sem, evS, g7, g6, p0, p1, p2, p3]
      exact ⟨fun h => by simpa [sput] using h0 (by simpa [did] using h), fun h => by simpa [sput] using h1 (by simpa [did] using h), fun h => by simpa [sput] using h2 (by simpa [did] using h), fun h => by simpa [sput] using h3 (by simpa [did] using h), fun h => by simpa [sput] using h4 (by simpa [did] using h), fun h => by simpa [sput] using h5 (by simpa [did] using h), fun h => by simpa [sput] using h6 (by simpa [did] using h), fun h => by simpa [sput] using h7 (by simpa [did] using h), fun _ => by simp [sput], fun h => by simpa [sput] using h9 (by simpa [did] using h), fun h => by simpa [sput] using h10 (by simpa [did] using h), fun h => by simpa [sput] using h11 (by simpa [did] using h), fun h => by simpa [sput] using h12 (by simpa [did] using h), fun h => by simpa [sput] using h13 (by simpa [did] using h), fun h => by simpa [sput] using h14 (by simpa [did] using h), fun h => by simpa [sput] using h15 (by simpa [did] using h), fun h => by simpa [sput] using h16 (by simpa [did] using h), fun h => by simpa [sput] using h17 (by simpa [did] using h), fun h => by simpa [sput] using h18 (by simpa [did] using h), fun h => by simpa [sput] using h19 (by simpa [did] using h), fun h => by simpa [sput] using h20 (by simpa [did] using h), fun h => by simpa [sput] using h21 (by simpa [did] using h), fun h => by simpa [sput] using h22 (by simpa [did] using h), fun h => by simpa [sput] using h23 (by simpa [did] using h), hT⟩
    · have g6 := h6 (by simp [hdep])
      refine stepG_on 6 82 false rfl rfl g6 ?_
      unfold OpSteps
      obtain ⟨p0, p1, p2, p3⟩ := cells4w (Hx7.out.below hT Hx7.out.lt)
      simp [go_sem, evS, f4, g6, p0, p1, p2, p3]
      exact ⟨fun h => by simpa [sput] using h0 (by simpa [did] using h), fun h => by simpa [sput] using h1 (by simpa [did] using h), fun h => by simpa [sput] using h2 (by simpa [did] using h), fun h => by simpa [sput] using h3 (by simpa [did] using h), fun h => by simpa [sput] using h4 (by simpa [did] using h), fun h => by simpa [sput] using h5 (by simpa [did] using h), fun h => by simpa [sput] using h6 (by simpa [did] using h), fun h => by simpa [sput] using h7 (by simpa [did] using h), fun h => by simpa [sput] using h8 (by simpa [did] using h), fun _ => by simp [sput], fun h => by simpa [sput] using h10 (by simpa [did] using h), fun h => by simpa [sput] using h11 (by simpa [did] using h), fun h => by simpa [sput] using h12 (by simpa [did] using h), fun h => by simpa [sput] using h13 (by simpa [did] using h), fun h => by simpa [sput] using h14 (by simpa [did] using h), fun h => by simpa [sput] using h15 (by simpa [did] using h), fun h => by simpa [sput] using h16 (by simpa [did] using h), fun h => by simpa [sput] using h17 (by simpa [did] using h), fun h => by simpa [sput] using h18 (by simpa [did] using h), fun h => by simpa [sput] using h19 (by simpa [did] using h), fun h => by simpa [sput] using h20 (by simpa [did] using h), fun h => by simpa [sput] using h21 (by simpa [did] using h), fun h => by simpa [sput] using h22 (by simpa [did] using h), fun h => by simpa [sput] using h23 (by simpa [did] using h), hT⟩
    · have g6 := h6 (by simp [hdep])
      refine stepG_on 6 82 false rfl rfl g6 ?_
      unfold OpSteps
      simp [go_sem, evS, f0, g6]
      exact ⟨fun h => by simpa [sput] using h0 (by simpa [did] using h), fun h => by simpa [sput] using h1 (by simpa [did] using h), fun h => by simpa [sput] using h2 (by simpa [did] using h), fun h => by simpa [sput] using h3 (by simpa [did] using h), fun h => by simpa [sput] using h4 (by simpa [did] using h), fun h => by simpa [sput] using h5 (by simpa [did] using h), fun h => by simpa [sput] using h6 (by simpa [did] using h), fun h => by simpa [sput] using h7 (by simpa [did] using h), fun h => by simpa [sput] using h8 (by simpa [did] using h), fun h => by simpa [sput] using h9 (by simpa [did] using h), fun _ => by simp [sput], fun h => by simpa [sput] using h11 (by simpa [did] using h), fun h => by simpa [sput] using h12 (by simpa [did] using h), fun h => by simpa [sput] using h13 (by simpa [did] using h), fun h => by simpa [sput] using h14 (by simpa [did] using h), fun h => by simpa [sput] using h15 (by simpa [did] using h), fun h => by simpa [sput] using h16 (by simpa [did] using h), fun h => by simpa [sput] using h17 (by simpa [did] using h), fun h => by simpa [sput] using h18 (by simpa [did] using h), fun h => by simpa [sput] using h19 (by simpa [did] using h), fun h => by simpa [sput] using h20 (by simpa [did] using h), fun h => by simpa [sput] using h21 (by simpa [did] using h), fun h => by simpa [sput] using h22 (by simpa [did] using h), fun h => by simpa [sput] using h23 (by simpa [did] using h), hT⟩
    · have g6 := h6 (by simp [hdep])
      refine stepG_on 6 82 false rfl rfl g6 ?_
      unfold OpSteps
      simp [go_sem, evS, f13, g6]
      exact ⟨fun h => by simpa [sput] using h0 (by simpa [did] using h), fun h => by simpa [sput] using h1 (by simpa [did] using h), fun h => by simpa [sput] using h2 (by simpa [did] using h), fun h => by simpa [sput] using h3 (by simpa [did] using h), fun h => by simpa [sput] using h4 (by simpa [did] using h), fun h => by simpa [sput] using h5 (by simpa [did] using h), fun h => by simpa [sput] using h6 (by simpa [did] using h), fun h => by simpa [sput] using h7 (by simpa [did] using h), fun h => by simpa [sput] using h8 (by simpa [did] using h), fun h => by simpa [sput] using h9 (by simpa [did] using h), fun h => by simpa [sput] using h10 (by simpa [did] using h), fun _ => by simp [sput], fun h => by simpa [sput] using h12 (by simpa [did] using h), fun h => by simpa [sput] using h13 (by simpa [did] using h), fun h => by simpa [sput] using h14 (by simpa [did] using h), fun h => by simpa [sput] using h15 (by simpa [did] using h), fun h => by simpa [sput] using h16 (by simpa [did] using h), fun h => by simpa [sput] using h17 (by simpa [did] using h), fun h => by simpa [sput] using h18 (by simpa [did] using h), fun h => by simpa [sput] using h19 (by simpa [did] using h), fun h => by simpa [sput] using h20 (by simpa [did] using h), fun h => by simpa [sput] using h21 (by simpa [did] using h), fun h => by simpa [sput] using h22 (by simpa [did] using h), fun h => by simpa [sput] using h23 (by simpa [did] using h), hT⟩
    · have g10 := h10 (by simp [hdep])
      have g11 := h11 (by simp [hdep])
      have g6 := h6 (by simp [hdep])
      refine stepG_on 6 82 false rfl rfl g6 ?_
      unfold OpSteps
      simp [go_sem, evS, g10, g11, g6]
      refine (HrS.out W LA dA (HL7.out.below hT)).mono ?_
      rintro e W' ⟨B1, d1, m', rfl, hm, hR, hr, hb⟩
      refine ⟨_, rfl, ?_⟩
      exact ⟨fun h => by simpa [sput] using h0 (by simpa [did] using h), fun h => by simpa [sput] using h1 (by simpa [did] using h), fun h => by simpa [sput] using h2 (by simpa [did] using h), fun h => by simpa [sput] using h3 (by simpa [did] using h), fun h => by simpa [sput] using h4 (by simpa [did] using h), fun h => by simpa [sput] using h5 (by simpa [did] using h), fun h => by simpa [sput] using h6 (by simpa [did] using h), fun h => by simpa [sput] using h7 (by simpa [did] using h), fun h => by simpa [sput] using h8 (by simpa [did] using h), fun h => by simpa [sput] using h9 (by simpa [did] using h), fun h => by simpa [sput] using h10 (by simpa [did] using h), fun h => by simpa [sput] using h11 (by simpa [did] using h), fun _ => by simpa [sput] using (show SlM W' (.slice B1 K d1) K (fun q r => Comes .mul a (X.getD q 0) r) from ⟨m', hm, hR, B1, d1, rfl, hr⟩), fun h => by simpa [sput] using (h13 (by simpa [did] using h)).below hb, fun h => by simpa [sput] using h14 (by simpa [did] using h), fun h => by simpa [sput] using h15 (by simpa [did] using h), fun h => by simpa [sput] using h16 (by simpa [did] using h), fun h => by simpa [sput] using h17 (by simpa [did] using h), fun h => by simpa [sput] using h18 (by simpa [did] using h), fun h => by simpa [sput] using h19 (by simpa [did] using h), fun h => by simpa [sput] using (h20 (by simpa [did] using h)).below hb, fun h => by simpa [sput] using h21 (by simpa [did] using h), fun h => by simpa [sput] using h22 (by simpa [did] using h), fun h => by simpa [sput] using h23 (by simpa [did] using h), below_nx hT hb⟩
    · have g9 := h9 (by simp [hdep])
      have g12 := h12 (by simp [hdep])
      have g6 := h6 (by simp [hdep])
      refine stepG_on 6 82 false rfl rfl g6 ?_
      unfold OpSteps
      obtain ⟨m', hm, hR, B1, d1, z1, r1⟩ := g12
      simp [go_sem, evS, g9, g6, z1]
      refine (HWr.out W (below_nx HB7.out hT) B1 d1 m' hm r1).mono ?_
      rintro e W' ⟨gz4, c4, rfl, ho4, _, hb⟩
      refine ⟨_, rfl, ?_⟩
      exact ⟨fun h => by simpa [sput] using h0 (by simpa [did] using h), fun h => by simpa [sput] using h1 (by simpa [did] using h), fun h => by simpa [sput] using h2 (by simpa [did] using h), fun h => by simpa [sput] using h3 (by simpa [did] using h), fun h => by simpa [sput] using h4 (by simpa [did] using h), fun h => by simpa [sput] using h5 (by simpa [did] using h), fun h => by simpa [sput] using h6 (by simpa [did] using h), fun h => by simpa [sput] using h7 (by simpa [did] using h), fun h => by simpa [sput] using h8 (by simpa [did] using h), fun h => by simpa [sput] using h9 (by simpa [did] using h), fun h => by simpa [sput] using h10 (by simpa [did] using h), fun h => by simpa [sput] using h11 (by simpa [did] using h), fun h => by simpa [sput] using (h12 (by simpa [did] using h)).below hb, fun _ => by simpa [sput] using (show SlO W' (.slice (some ⟨gz4, 0, none⟩) n c4) n (fun M => ∃ m' : List Nat, m'.length = K ∧ (∀ q, q < K → Comes .mul a (X.getD q 0) (m'.getD q 0)) ∧ M = wrt l o i m' K) from ⟨gz4, c4, _, rfl, ⟨m', hm, hR, rfl⟩, ho4⟩), fun h => by simpa [sput] using h14 (by simpa [did] using h), fun h => by simpa [sput] using h15 (by simpa [did] using h), fun h => by simpa [sput] using h16 (by simpa [did] using h), fun h => by simpa [sput] using h17 (by simpa [did] using h), fun h => by simpa [sput] using h18 (by simpa [did] using h), fun h => by simpa [sput] using h19 (by simpa [did] using h), fun h => by simpa [sput] using (h20 (by simpa [did] using h)).below hb, fun h => by simpa [sput] using h21 (by simpa [did] using h), fun h => by simpa [sput] using h22 (by simpa [did] using h), fun h => by simpa [sput] using h23 (by simpa [did] using h), below_nx hT hb⟩
    · have g8 := h8 (by simp [hdep])
      have g13 := h13 (by simp [hdep])
      have g6 := h6 (by simp [hdep])
      refine stepG_on 6 82 false rfl rfl g6 ?_
      unfold OpSteps
      obtain ⟨gz4, c4, M', z1, ⟨m', hm', hR', rfl⟩, ho4⟩ := g13
      simp [go_sem, evS, g8, g6, z1]
      refine (HFs.out W _ _ _ _ _ _ HM1.out.1 HM1.out.2 hm' hR' (Hu7.out.nxt hT).row ho4.row).mono ?_
      rintro e W' ⟨rfl, hb⟩
      refine ⟨_, rfl, ?_⟩
      exact ⟨fun h => by simpa [sput] using h0 (by simpa [did] using h), fun h => by simpa [sput] using h1 (by simpa [did] using h), fun h => by simpa [sput] using h2 (by simpa [did] using h), fun h => by simpa [sput] using h3 (by simpa [did] using h), fun h => by simpa [sput] using h4 (by simpa [did] using h), fun h => by simpa [sput] using h5 (by simpa [did] using h), fun h => by simpa [sput] using h6 (by simpa [did] using h), fun h => by simpa [sput] using h7 (by simpa [did] using h), fun h => by simpa [sput] using h8 (by simpa [did] using h), fun h => by simpa [sput] using h9 (by simpa [did] using h), fun h => by simpa [sput] using h10 (by simpa [did] using h), fun h => by simpa [sput] using h11 (by simpa [did] using h), fun h => by simpa [sput] using (h12 (by simpa [did] using h)).below hb, fun h => by simpa [sput] using (h13 (by simpa [did] using h)).below hb, fun _ => by simp [sput], fun h => by simpa [sput] using h15 (by simpa [did] using h), fun h => by simpa [sput] using h16 (by simpa [did] using h), fun h => by simpa [sput] using h17 (by simpa [did] using h), fun h => by simpa [sput] using h18 (by simpa [did] using h), fun h => by simpa [sput] using h19 (by simpa [did] using h), fun h => by simpa [sput] using (h20 (by simpa [did] using h)).below hb, fun h => by simpa [sput] using h21 (by simpa [did] using h), fun h => by simpa [sput] using h22 (by simpa [did] using h), fun h => by simpa [sput] using h23 (by simpa [did] using h), below_nx hT hb⟩
    · have g14 := h14 (by simp [hdep])
      have g6 := h6 (by simp [hdep])
      refine stepG_on 6 82 false rfl rfl g6 ?_
      unfold OpSteps
      simp [go_sem, evS, g14, g6]
      exact ⟨fun h => by simpa [sput] using h0 (by simpa [did] using h), fun h => by simpa [sput] using h1 (by simpa [did] using h), fun h => by simpa [sput] using h2 (by simpa [did] using h), fun h => by simpa [sput] using h3 (by simpa [did] using h), fun h => by simpa [sput] using h4 (by simpa [did] using h), fun h => by simpa [sput] using h5 (by simpa [did] using h), fun h => by simpa [sput] using h6 (by simpa [did] using h), fun h => by simpa [sput] using h7 (by simpa [did] using h), fun h => by simpa [sput] using h8 (by simpa [did] using h), fun h => by simpa [sput] using h9 (by simpa [did] using h), fun h => by simpa [sput] using h10 (by simpa [did] using h), fun h => by simpa [sput] using h11 (by simpa [did] using h), fun h => by simpa [sput] using h12 (by simpa [did] using h), fun h => by simpa [sput] using h13 (by simpa [did] using h), fun h => by simpa [sput] using h14 (by simpa [did] using h), fun _ => by simp [sput], fun h => by simpa [sput] using h16 (by simpa [did] using h), fun h => by simpa [sput] using h17 (by simpa [did] using h), fun h => by simpa [sput] using h18 (by simpa [did] using h), fun h => by simpa [sput] using h19 (by simpa [did] using h), fun h => by simpa [sput] using h20 (by simpa [did] using h), fun h => by simpa [sput] using h21 (by simpa [did] using h), fun h => by simpa [sput] using h22 (by simpa [did] using h), fun h => by simpa [sput] using h23 (by simpa [did] using h), hT⟩
    · have g6 := h6 (by simp [hdep])
      have g15 := h15 (by simp [hdep])
      refine stepG_plain rfl ?_
      unfold OpSteps
      simp [go_sem, evS, g6, g15]
      exact ⟨fun h => by simpa [sput] using h0 (by simpa [did] using h), fun h => by simpa [sput] using h1 (by simpa [did] using h), fun h => by simpa [sput] using h2 (by simpa [did] using h), fun h => by simpa [sput] using h3 (by simpa [did] using h), fun h => by simpa [sput] using h4 (by simpa [did] using h), fun h => by simpa [sput] using h5 (by simpa [did] using h), fun h => by simpa [sput] using h6 (by simpa [did] using h), fun h => by simpa [sput] using h7 (by simpa [did] using h), fun h => by simpa [sput] using h8 (by simpa [did] using h), fun h => by simpa [sput] using h9 (by simpa [did] using h), fun h => by simpa [sput] using h10 (by simpa [did] using h), fun h => by simpa [sput] using h11 (by simpa [did] using h), fun h => by simpa [sput] using h12 (by simpa [did] using h), fun h => by simpa [sput] using h13 (by simpa [did] using h), fun h => by simpa [sput] using h14 (by simpa [did] using h), fun h => by simpa [sput] using h15 (by simpa [did] using h), fun _ => by simp [sput], fun h => by simpa [sput] using h17 (by simpa [did] using h), fun h => by simpa [sput] using h18 (by simpa [did] using h), fun h => by simpa [sput] using h19 (by simpa [did] using h), fun h => by simpa [sput] using h20 (by simpa [did] using h), fun h => by simpa [sput] using h21 (by simpa [did] using h), fun h => by simpa [sput] using h22 (by simpa [did] using h), fun h => by simpa [sput] using h23 (by simpa [did] using h), hT⟩
    · have g16 := h16 (by simp [hdep])
      refine stepG_plain rfl ?_
      unfold OpSteps
      simp [go_sem, evS, g16]
      exact ⟨fun h => by simpa [sput] using h0 (by simpa [did] using h), fun h => by simpa [sput] using h1 (by simpa [did] using h), fun h => by simpa [sput] using h2 (by simpa [did] using h), fun h => by simpa [sput] using h3 (by simpa [did] using h), fun h => by simpa [sput] using h4 (by simpa [did] using h), fun h => by simpa [sput] using h5 (by simpa [did] using h), fun h => by simpa [sput] using h6 (by simpa [did] using h), fun h => by simpa [sput] using h7 (by simpa [did] using h), fun h => by simpa [sput] using h8 (by simpa [did] using h), fun h => by simpa [sput] using h9 (by simpa [did] using h), fun h => by simpa [sput] using h10 (by simpa [did] using h), fun h => by simpa [sput] using h11 (by simpa [did] using h), fun h => by simpa [sput] using h12 (by simpa [did] using h), fun h => by simpa [sput] using h13 (by simpa [did] using h), fun h => by simpa [sput] using h14 (by simpa [did] using h), fun h => by simpa [sput] using h15 (by simpa [did] using h), fun h => by simpa [sput] using h16 (by simpa [did] using h), fun _ => by simp [sput], fun h => by simpa [sput] using h18 (by simpa [did] using h), fun h => by simpa [sput] using h19 (by simpa [did] using h), fun h => by simpa [sput] using h20 (by simpa [did] using h), fun h => by simpa [sput] using h21 (by simpa [did] using h), fun h => by simpa [sput] using h22 (by simpa [did] using h), fun h => by simpa [sput] using h23 (by simpa [did] using h), hT⟩
    · have g17 := h17 (by simp [hdep])
      refine stepG_on 17 93 false rfl rfl g17 ?_
      unfold OpSteps
      simp [go_sem, evS, f11, g17]
      exact ⟨fun h => by simpa [sput] using h0 (by simpa [did] using h), fun h => by simpa [sput] using h1 (by simpa [did] using h), fun h => by simpa [sput] using h2 (by simpa [did] using h), fun h => by simpa [sput] using h3 (by simpa [did] using h), fun h => by simpa [sput] using h4 (by simpa [did] using h), fun h => by simpa [sput] using h5 (by simpa [did] using h), fun h => by simpa [sput] using h6 (by simpa [did] using h), fun h => by simpa [sput] using h7 (by simpa [did] using h), fun h => by simpa [sput] using h8 (by simpa [did] using h), fun h => by simpa [sput] using h9 (by simpa [did] using h), fun h => by simpa [sput] using h10 (by simpa [did] using h), fun h => by simpa [sput] using h11 (by simpa [did] using h), fun h => by simpa [sput] using h12 (by simpa [did] using h), fun h => by simpa [sput] using h13 (by simpa [did] using h), fun h => by simpa [sput] using h14 (by simpa [did] using h), fun h => by simpa [sput] using h15 (by simpa [did] using h), fun h => by simpa [sput] using h16 (by simpa [did] using h), fun h => by simpa [sput] using h17 (by simpa [did] using h), fun _ => by simp [sput], fun h => by simpa [sput] using h19 (by simpa [did] using h), fun h => by simpa [sput] using h20 (by simpa [did] using h), fun h => by simpa [sput] using h21 (by simpa [did] using h), fun h => by simpa [sput] using h22 (by simpa [did] using h), fun h => by simpa [sput] using h23 (by simpa [did] using h), hT⟩
    · have g17 := h17 (by simp [hdep])
      refine stepG_on 17 93 false rfl rfl g17 ?_
      unfold OpSteps
      simp [go_sem, evS, f13, g17]
      exact ⟨fun h => by simpa [sput] using h0 (by simpa [did] using h), fun h => by simpa [sput] using h1 (by simpa [did] using h), fun h => by simpa [sput] using h2 (by simpa [did] using h), fun h => by simpa [sput] using h3 (by simpa [did] using h), fun h => by simpa [sput] using h4 (by simpa [did] using h), fun h => by simpa [sput] using h5 (by simpa [did] using h), fun h => by simpa [sput] using h6 (by simpa [did] using h), fun h => by simpa [sput] using h7 (by simpa [did] using h), fun h => by simpa [sput] using h8 (by simpa [did] using h), fun h => by simpa [sput] using h9 (by simpa [did] using h), fun h => by simpa [sput] using h10 (by simpa [did] using h), fun h => by simpa [sput] using h11 (by simpa [did] using h), fun h => by simpa [sput] using h12 (by simpa [did] using h), fun h => by simpa [sput] using h13 (by simpa [did] using h), fun h => by simpa [sput] using h14 (by simpa [did] using h), fun h => by simpa [sput] using h15 (by simpa [did] using h), fun h => by simpa [sput] using h16 (by simpa [did] using h), fun h => by simpa [sput] using h17 (by simpa [did] using h), fun h => by simpa [sput] using h18 (by simpa [did] using h), fun _ => by simp [sput], fun h => by simpa [sput] using h20 (by simpa [did] using h), fun h => by simpa [sput] using h21 (by simpa [did] using h), fun h => by simpa [sput] using h22 (by simpa [did] using h), fun h => by simpa [sput] using h23 (by simpa [did] using h), hT⟩
    · have g19 := h19 (by simp [hdep])
      have g17 := h17 (by simp [hdep])
      refine stepG_on 17 93 false rfl rfl g17 ?_
      unfold OpSteps
      simp [go_sem, evS, g19, g17]
      refine (HrG.out W LA dA (HL7.out.below hT)).mono ?_
      rintro e W' ⟨B1, d1, m', rfl, hm, hR, hr, hb⟩
      refine ⟨_, rfl, ?_⟩
      exact ⟨fun h => by simpa [sput] using h0 (by simpa [did] using h), fun h => by simpa [sput] using h1 (by simpa [did] using h), fun h => by simpa [sput] using h2 (by simpa [did] using h), fun h => by simpa [sput] using h3 (by simpa [did] using h), fun h => by simpa [sput] using h4 (by simpa [did] using h), fun h => by simpa [sput] using h5 (by simpa [did] using h), fun h => by simpa [sput] using h6 (by simpa [did] using h), fun h => by simpa [sput] using h7 (by simpa [did] using h), fun h => by simpa [sput] using h8 (by simpa [did] using h), fun h => by simpa [sput] using h9 (by simpa [did] using h), fun h => by simpa [sput] using h10 (by simpa [did] using h), fun h => by simpa [sput] using h11 (by simpa [did] using h), fun h => by simpa [sput] using (h12 (by simpa [did] using h)).below hb, fun h => by simpa [sput] using (h13 (by simpa [did] using h)).below hb, fun h => by simpa [sput] using h14 (by simpa [did] using h), fun h => by simpa [sput] using h15 (by simpa [did] using h), fun h => by simpa [sput] using h16 (by simpa [did] using h), fun h => by simpa [sput] using h17 (by simpa [did] using h), fun h => by simpa [sput] using h18 (by simpa [did] using h), fun h => by simpa [sput] using h19 (by simpa [did] using h), fun _ => by simpa [sput] using (show SlM W' (.slice B1 K d1) K (fun q r => r = sgnW (X.getD q 0)) from ⟨m', hm, hR, B1, d1, rfl, hr⟩), fun h => by simpa [sput] using h21 (by simpa [did] using h), fun h => by simpa [sput] using h22 (by simpa [did] using h), fun h => by simpa [sput] using h23 (by simpa [did] using h), below_nx hT hb⟩
    · have g18 := h18 (by simp [hdep])
      have g20 := h20 (by simp [hdep])
      have g17 := h17 (by simp [hdep])
      refine stepG_on 17 93 false rfl rfl g17 ?_
      unfold OpSteps
      obtain ⟨m', hm', hR', B1, d1, z1, r1⟩ := g20
      simp [go_sem, evS, g18, g17, z1]
      refine (HFg.out W _ _ _ _ _ _ HMs.out.1 HMs.out.2 hm' hR' (Hs7.out.nxt hT).row r1).mono ?_
      rintro e W' ⟨rfl, hb⟩
      refine ⟨_, rfl, ?_⟩
      exact ⟨fun h => by simpa [sput] using h0 (by simpa [did] using h), fun h => by simpa [sput] using h1 (by simpa [did] using h), fun h => by simpa [sput] using h2 (by simpa [did] using h), fun h => by simpa [sput] using h3 (by simpa [did] using h), fun h => by simpa [sput] using h4 (by simpa [did] using h), fun h => by simpa [sput] using h5 (by simpa [did] using h), fun h => by simpa [sput] using h6 (by simpa [did] using h), fun h => by simpa [sput] using h7 (by simpa [did] using h), fun h => by simpa [sput] using h8 (by simpa [did] using h), fun h => by simpa [sput] using h9 (by simpa [did] using h), fun h => by simpa [sput] using h10 (by simpa [did] using h), fun h => by simpa [sput] using h11 (by simpa [did] using h), fun h => by simpa [sput] using (h12 (by simpa [did] using h)).below hb, fun h => by simpa [sput] using (h13 (by simpa [did] using h)).below hb, fun h => by simpa [sput] using h14 (by simpa [did] using h), fun h => by simpa [sput] using h15 (by simpa [did] using h), fun h => by simpa [sput] using h16 (by simpa [did] using h), fun h => by simpa [sput] using h17 (by simpa [did] using h), fun h => by simpa [sput] using h18 (by simpa [did] using h), fun h => by simpa [sput] using h19 (by simpa [did] using h), fun h => by simpa [sput] using (h20 (by simpa [did] using h)).below hb, fun _ => by simp [sput], fun h => by simpa [sput] using h22 (by simpa [did] using h), fun h => by simpa [sput] using h23 (by simpa [did] using h), below_nx hT hb⟩
    · have g21 := h21 (by simp [hdep])
      have g17 := h17 (by simp [hdep])
      refine stepG_on 17 93 false rfl rfl g17 ?_
      unfold OpSteps
      simp [go_sem, evS, g21, g17]
      exact ⟨fun h => by simpa [sput] using h0 (by simpa [did] using h), fun h => by simpa [sput] using h1 (by simpa [did] using h), fun h => by simpa [sput] using h2 (by simpa [did] using h), fun h => by simpa [sput] using h3 (by simpa [did] using h), fun h => by simpa [sput] using h4 (by simpa [did] using h), fun h => by simpa [sput] using h5 (by simpa [did] using h), fun h => by simpa [sput] using h6 (by simpa [did] using h), fun h => by simpa [sput] using h7 (by simpa [did] using h), fun h => by simpa [sput] using h8 (by simpa [did] using h), fun h => by simpa [sput] using h9 (by simpa [did] using h), fun h => by simpa [sput] using h10 (by simpa [did] using h), fun h => by simpa [sput] using h11 (by simpa [did] using h), fun h => by simpa [sput] using h12 (by simpa [did] using h), fun h => by simpa [sput] using h13 (by simpa [did] using h), fun h => by simpa [sput] using h14 (by simpa [did] using h), fun h => by simpa [sput] using h15 (by simpa [did] using h), fun h => by simpa [sput] using h16 (by simpa [did] using h), fun h => by simpa [sput] using h17 (by simpa [did] using h), fun h => by simpa [sput] using h18 (by simpa [did] using h), fun h => by simpa [sput] using h19 (by simpa [did] using h), fun h => by simpa [sput] using h20 (by simpa [did] using h), fun h => by simpa [sput] using h21 (by simpa [did] using h), fun _ => by simp [sput], fun h => by simpa [sput] using h23 (by simpa [did] using h), hT⟩
    · have g17 := h17 (by simp [hdep])
      have g22 := h22 (by simp [hdep])
      refine stepG_plain rfl ?_
      unfold OpSteps
      simp [go_sem, evS, g17, g22]
      exact ⟨fun h => by simpa [sput] using h0 (by simpa [did] using h), fun h => by simpa [sput] using h1 (by simpa [did] using h), fun h => by simpa [sput] using h2 (by simpa [did] using h), fun h => by simpa [sput] using h3 (by simpa [did] using h), fun h => by simpa [sput] using h4 (by simpa [did] using h), fun h => by simpa [sput] using h5 (by simpa [did] using h), fun h => by simpa [sput] using h6 (by simpa [did] using h), fun h => by simpa [sput] using h7 (by simpa [did] using h), fun h => by simpa [sput] using h8 (by simpa [did] using h), fun h => by simpa [sput] using h9 (by simpa [did] using h), fun h => by simpa [sput] using h10 (by simpa [did] using h), fun h => by simpa [sput] using h11 (by simpa [did] using h), fun h => by simpa [sput] using h12 (by simpa [did] using h), fun h => by simpa [sput] using h13 (by simpa [did] using h), fun h => by simpa [sput] using h14 (by simpa [did] using h), fun h => by simpa [sput] using h15 (by simpa [did] using h), fun h => by simpa [sput] using h16 (by simpa [did] using h), fun h => by simpa [sput] using h17 (by simpa [did] using h), fun h => by simpa [sput] using h18 (by simpa [did] using h), fun h => by simpa [sput] using h19 (by simpa [did] using h), fun h => by simpa [sput] using h20 (by simpa [did] using h), fun h => by simpa [sput] using h21 (by simpa [did] using h), fun h => by simpa [sput] using h22 (by simpa [did] using h), fun _ => by simp [sput], hT⟩
  intro d s W hJ hd
  obtain ⟨h0, h1, h2, h3, h4, h5, h6, h7, h8, h9, h10, h11, h12, h13, h14, h15, h16, h17, h18, h19, h20, h21, h22, h23, hT⟩ := hJ
  have hs := h23 (hd 23 (by decide))
  have hb : Below w8.heap.size w8 W := hT
  clear h0 h1 h2 h3 h4 h5 h6 h7 h8 h9 h10 h11 h12 h13 h14 h15 h16 h17 h18 h19 h20 h21 h22 h23 hT hd
  simp [setAll, hs]
  clear hs
  generalize s 76 = s76
  generalize s 77 = s77
  generalize s 78 = s78
  generalize s 79 = s79
  generalize s 80 = s80
  generalize s 81 = s81
  generalize s 82 = s82
  generalize s 83 = s83
  generalize s 84 = s84
  generalize s 85 = s85
  generalize s 86 = s86
  generalize s 87 = s87
  generalize s 88 = s88
  generalize s 89 = s89
  generalize s 90 = s90
  generalize s 91 = s91
  generalize s 92 = s92
  generalize s 93 = s93
  generalize s 94 = s94
  generalize s 95 = s95
  generalize s 96 = s96
  generalize s 97 = s97
  generalize s 98 = s98
  generalize W = w9 at *
  have Hx8 := Lib.hid (Hx7.out.nxt hb)
  have Hp8 := Lib.hid (Hp7.out.nxt hb)
  have Hq8 := Lib.hid (Hq7.out.nxt hb)
  have Hu8 := Lib.hid (Hu7.out.nxt hb)
  have Hv8 := Lib.hid (Hv7.out.nxt hb)
  have Hs8 := Lib.hid (Hs7.out.nxt hb)
  have HL8 := Lib.hid (HL7.out.below hb)
  have HB8 := Lib.hid (below_nx HB7.out hb)
  clear hb
  clear x0 x1 x2 x3 p0 p1 p2 p3 q0 q1 q2 q3
  obtain ⟨x0, x1, x2, x3⟩ := cells4w Hx8.out
  obtain ⟨p0, p1, p2, p3⟩ := cells4w Hp8.out
  obtain ⟨q0, q1, q2, q3⟩ := cells4w Hq8.out
  go_wp2_with fail
  obtain rfl : lb = l := HFb.out
  refine (HAll.out _ _ _ _ _ Hv8.out.row (HA.out.below HB8.out)).mono ?_
  rintro e w10 ⟨rfl, hb⟩
  have Hx9 := Lib.hid (Hx8.out.nxt hb)
  have Hp9 := Lib.hid (Hp8.out.nxt hb)
  have Hq9 := Lib.hid (Hq8.out.nxt hb)
  have Hu9 := Lib.hid (Hu8.out.nxt hb)
  have Hv9 := Lib.hid (Hv8.out.nxt hb)
  have Hs9 := Lib.hid (Hs8.out.nxt hb)
  have HL9 := Lib.hid (HL8.out.below hb)
  have HB9 := Lib.hid (below_nx HB8.out hb)
  clear hb
  clear x0 x1 x2 x3 p0 p1 p2 p3 q0 q1 q2 q3
  obtain ⟨x0, x1, x2, x3⟩ := cells4w Hx9.out
  obtain ⟨p0, p1, p2, p3⟩ := cells4w Hp9.out
  obtain ⟨q0, q1, q2, q3⟩ := cells4w Hq9.out
  go_wp2_with fail
  refine (awake6_any _).mono ?_
  rintro e w11 ⟨rfl, hb⟩
  have Hx10 := Lib.hid (Hx9.out.nxt hb)
  have Hp10 := Lib.hid (Hp9.out.nxt hb)
  have Hq10 := Lib.hid (Hq9.out.nxt hb)
  have Hu10 := Lib.hid (Hu9.out.nxt hb)
  have Hv10 := Lib.hid (Hv9.out.nxt hb)
  have Hs10 := Lib.hid (Hs9.out.nxt hb)
  have HL10 := Lib.hid (HL9.out.below hb)
  have HB10 := Lib.hid (below_nx HB9.out hb)
  clear hb
  clear x0 x1 x2 x3 p0 p1 p2 p3 q0 q1 q2 q3
  obtain ⟨x0, x1, x2, x3⟩ := cells4w Hx10.out
  obtain ⟨p0, p1, p2, p3⟩ := cells4w Hp10.out
  obtain ⟨q0, q1, q2, q3⟩ := cells4w Hq10.out
  go_wp2_with fail
  go_ret
  exact ⟨rfl, HB10.out⟩
end Go.Proofs.Ytjjneiidggcfdaa
