/-
At: a number of a table. Conditions: as each says.
-/
import Derived.Test.YtlhdcajamempoaaSam
import Derived.Test.YtlhdcajamempoaaSaz
import Derived.Test.YtlhdcajamempoaaSan
set_option linter.unusedVariables false
namespace Go.Proofs.Ytlhdcajamempoaa
open Go.RowKit
attribute [local go_sem ↓] Go.wp_at_zero Go.wp_at_succ


theorem rat_any (r k : Int) (g n c : Nat) (T : List Nat) (i j p : Nat) (w : World) (hB : Row w (some ⟨g, 0, none⟩) (f64s T)) (hT : T.length = n) (hp : p < n) (hn : n < 9223372036854775808) (he : (i : Int) * k + (j : Int) = (p : Int)) (hm : I64 ((i : Int) * k)) :
    Calls Try.prog 60 #[tbl r k g n c, .int .i64 i, .int .i64 j] w fun e w' => e = .returned (.float .f64 (T.getD p 0)) ∧ Below w.heap.size w w' := by
  unfold I64 at hm
  have hpT : p < T.length := by omega
  obtain ⟨b, o, hbo, hlt, hc⟩ := hB.at_ (f64s_get T p hpT)
  injection hbo with hbo
  injection hbo with e1 e2 _
  subst e1 e2
  rw [Nat.zero_add] at hc
  have hv : T.getD p 0 = T[p] := getD_of_lt hpT
  rw [hv]
  obtain ⟨v, hv2⟩ : ∃ v, T[p] = v := ⟨_, rfl⟩
  rw [hv2] at hc
  rw [hv2]
  have hc2 := cell_below hc (below_one (W := w) (o := .cells #[.int .i64 r, .int .i64 k, .slice (some ⟨g, 0, none⟩) n c] 47))
  have w1 : IntKind.i64.wrap ((i : Int) * k) = (i : Int) * k := wrapi (by omega) (by omega)
  have w2 : IntKind.i64.wrap (p : Int) = (p : Int) := wrapi (by omega) (by omega)
  have hpn : (p : Int) < (n : Int) := by omega
  have hp0 : (0 : Int) ≤ (p : Int) := by omega
  clear hv hv2 hpT hc hB hT hlt
  unfold tbl
  go_enter Try.func60, Try.ntmps60
  go_wp2_with fail
  go_ret
  exact ⟨rfl, (Below.refl w.heap.size w).alloc (Nat.le_refl _) _⟩
end Go.Proofs.Ytlhdcajamempoaa
/-
The document's Rows of a table. Conditions: the table has at most 2^40 numbers.
-/
set_option linter.unusedVariables false
namespace Go.Proofs.Ytlhdcajamempoaa
open Go.RowKit
attribute [local go_sem ↓] Go.wp_at_zero Go.wp_at_succ

theorem tab_inj {C a b a' b' : Nat} (hb : b < C) (hb' : b' < C) (h : a * C + b = a' * C + b') : a = a' ∧ b = b' := by
  have h1 : (a * C + b) % C = b := by rw [Nat.mul_add_mod_self_right, Nat.mod_eq_of_lt hb]
  have h2 : (a' * C + b') % C = b' := by rw [Nat.mul_add_mod_self_right, Nat.mod_eq_of_lt hb']
  have e : b = b' := by rw [← h1, h, h2]
  subst e
  have hm : a * C = a' * C := by omega
  exact ⟨Nat.eq_of_mul_eq_mul_right (by omega) hm, rfl⟩
/-- The first q columns have changed rows i and k. -/
def Half (T : List Nat) (i k R C q : Nat) (T' : List Nat) : Prop := T'.length = T.length ∧ ∀ a, a < R → ∀ b, b < C → T'.getD (a * C + b) 0 = if b < q then T.getD (sw i k a * C + b) 0 else T.getD (a * C + b) 0
theorem Half.zero (T : List Nat) (i k R C : Nat) : Half T i k R C 0 T := ⟨rfl, fun a _ b _ => by simp⟩
theorem Half.step {T T' : List Nat} {i k R C q : Nat} (h : Half T i k R C q T') (hi : i < R) (hk : k < R) (hq : q < C) (hT : T.length = R * C) :
    Half T i k R C (q + 1) ((T'.set (i * C + q) (T'.getD (k * C + q) 0)).set (k * C + q) (T'.getD (i * C + q) 0)) := by
  refine ⟨by rw [List.length_set, List.length_set]; exact h.1, fun a ha b hb => ?_⟩
  have hli := tab_lt hi hq
  have hlk := tab_lt hk hq
  have hx := h.2 i hi q hq
  have hy := h.2 k hk q hq
  rw [if_neg (by omega)] at hx hy
  have hl := h.1
  by_cases e : b = q
  · subst e
    rw [if_pos (by omega)]
    by_cases e1 : a = k
    · subst e1
      rw [getD_set_self (by rw [List.length_set]; omega), hx]
      have : sw i a a = i := by
        unfold sw
        by_cases h2 : a = i
        · rw [if_pos h2]; exact h2
        · rw [if_neg h2, if_pos rfl]
      rw [this]
    · rw [getD_set_ne _ (fun e2 => e1 (tab_inj hq hq e2).1.symm)]
      by_cases e2 : a = i
      · subst e2
        rw [getD_set_self (by omega), hy]
        have : sw a k a = k := by unfold sw; rw [if_pos rfl]
        rw [this]
      · rw [getD_set_ne _ (fun e3 => e2 (tab_inj hq hq e3).1.symm), h.2 a ha b hb, if_neg (by omega)]
        have : sw i k a = a := by unfold sw; rw [if_neg e2, if_neg e1]
        rw [this]
  · rw [getD_set_ne _ (fun e2 => e (tab_inj hq hb e2).2.symm), getD_set_ne _ (fun e2 => e (tab_inj hq hb e2).2.symm), h.2 a ha b hb]
    by_cases h2 : b < q
    · rw [if_pos h2, if_pos (by omega)]
    · rw [if_neg h2, if_neg (by omega)]

theorem heldQ3 {W w' : World} {b0 o0 b1 o1 b2 o2 : Nat} {v0 v1 v2 : Value} {R : World → Prop} (h : W.cell? ⟨b0, o0, none⟩ = some v0 ∧ W.cell? ⟨b1, o1, none⟩ = some v1 ∧ W.cell? ⟨b2, o2, none⟩ = some v2 ∧ R W) (hb : Below W.heap.size W w') (hR : R W → R w') :
    w'.cell? ⟨b0, o0, none⟩ = some v0 ∧ w'.cell? ⟨b1, o1, none⟩ = some v1 ∧ w'.cell? ⟨b2, o2, none⟩ = some v2 ∧ R w' :=
  ⟨cell_below h.1 hb, cell_below h.2.1 hb, cell_below h.2.2.1 hb, hR h.2.2.2⟩
theorem heldS3 {W : World} {b0 o0 b1 o1 b2 o2 g j : Nat} {v0 v1 v2 : Value} {R : World → Prop} (u : Value) (h : W.cell? ⟨b0, o0, none⟩ = some v0 ∧ W.cell? ⟨b1, o1, none⟩ = some v1 ∧ W.cell? ⟨b2, o2, none⟩ = some v2 ∧ R W) (hR : R W → R (W.setCell ⟨g, j, none⟩ u)) (n0 : ¬ (b0 = g ∧ o0 = j)) (n1 : ¬ (b1 = g ∧ o1 = j)) (n2 : ¬ (b2 = g ∧ o2 = j)) :
    (W.setCell ⟨g, j, none⟩ u).cell? ⟨b0, o0, none⟩ = some v0 ∧ (W.setCell ⟨g, j, none⟩ u).cell? ⟨b1, o1, none⟩ = some v1 ∧ (W.setCell ⟨g, j, none⟩ u).cell? ⟨b2, o2, none⟩ = some v2 ∧ R (W.setCell ⟨g, j, none⟩ u) :=
  ⟨(cell_set2 n0 u).trans h.1, (cell_set2 n1 u).trans h.2.1, (cell_set2 n2 u).trans h.2.2.1, hR h.2.2.2⟩
end Go.Proofs.Ytlhdcajamempoaa
/-
The document's Take of a table. Conditions: the table has at most 2^20 numbers.
-/
set_option linter.unusedVariables false
namespace Go.Proofs.Ytlhdcajamempoaa
open Go.RowKit
attribute [local go_sem ↓] Go.wp_at_zero Go.wp_at_succ

/-- The table's rows stand as the first q changes of the order have it. -/
def Prm (T : List Nat) (zs : List Int) (R C q : Nat) (T' : List Nat) : Prop := T'.length = T.length ∧ ∀ a, a < R → ∀ b, b < C → T'.getD (a * C + b) 0 = T.getD (prm zs q a * C + b) 0
theorem Prm.step {T T' T2 : List Nat} {zs : List Int} {R C q j : Nat} (h : Prm T zs R C q T') (h2 : Half T' q j R C C T2) (hq : q < R) (hj : j < R) (e : ∀ a, prm zs (q + 1) a = prm zs q (sw q j a)) : Prm T zs R C (q + 1) T2 :=
  ⟨h2.1.trans h.1, fun a ha b hb => by
    rw [h2.2 a ha b hb, if_pos hb, h.2 _ (sw_lt hq hj ha) b hb, e]⟩

theorem heldG4 {W w' : World} {G : List Nat} {b0 o0 b1 o1 b2 o2 b3 o3 : Nat} {v0 v1 v2 v3 : Value} {R : World → Prop} (h : W.cell? ⟨b0, o0, none⟩ = some v0 ∧ W.cell? ⟨b1, o1, none⟩ = some v1 ∧ W.cell? ⟨b2, o2, none⟩ = some v2 ∧ W.cell? ⟨b3, o3, none⟩ = some v3 ∧ R W) (hc : Chg G W w') (n0 : b0 ∉ G) (n1 : b1 ∉ G) (n2 : b2 ∉ G) (n3 : b3 ∉ G) (hR : R W → R w') :
    w'.cell? ⟨b0, o0, none⟩ = some v0 ∧ w'.cell? ⟨b1, o1, none⟩ = some v1 ∧ w'.cell? ⟨b2, o2, none⟩ = some v2 ∧ w'.cell? ⟨b3, o3, none⟩ = some v3 ∧ R w' :=
  ⟨hc.cell n0 h.1, hc.cell n1 h.2.1, hc.cell n2 h.2.2.1, hc.cell n3 h.2.2.2.1, hR h.2.2.2.2⟩
end Go.Proofs.Ytlhdcajamempoaa
/-
The document's Into: a list with a table at a matrix' places. Conditions: the matrix is right, its list and the table have at most 2^20 numbers.
-/
set_option linter.unusedVariables false
set_option linter.unusedSimpArgs false
namespace Go.Proofs.Ytlhdcajamempoaa
open Go.RowKit
attribute [local go_sem ↓] Go.wp_at_zero Go.wp_at_succ

/-- The list has the table T at the matrix' first places, by rows, and is else as it was. -/
def Pim (l : List Nat) (o R C L : Nat) (T : Nat → Nat → Nat) (a b : Nat) (l' : List Nat) : Prop :=
  l'.length = l.length ∧ (∀ i, i < R → ∀ j, j < C → l'.getD (o + i + j * L) 0 = if i < a ∨ (i = a ∧ j < b) then T i j else l.getD (o + i + j * L) 0) ∧ ∀ x, (∀ i, i < R → ∀ j, j < C → x ≠ o + i + j * L) → l'.getD x 0 = l.getD x 0
theorem Pim.zero (l : List Nat) (o R C L : Nat) (T : Nat → Nat → Nat) : Pim l o R C L T 0 0 l := ⟨rfl, fun i _ j _ => by rw [if_neg (by omega)], fun _ _ => rfl⟩
theorem Pim.next {l l' : List Nat} {o R C L : Nat} {T : Nat → Nat → Nat} {a : Nat} (h : Pim l o R C L T a C l') : Pim l o R C L T (a + 1) 0 l' :=
  ⟨h.1, fun i hi j hj => by
    rw [h.2.1 i hi j hj]
    by_cases e : i < a ∨ (i = a ∧ j < C)
    · rw [if_pos e, if_pos (by omega)]
    · rw [if_neg e, if_neg (by omega)], h.2.2⟩
theorem Pim.done {l l' : List Nat} {o R C L : Nat} {T : Nat → Nat → Nat} (h : Pim l o R C L T R 0 l') : Img l o R C L T l' :=
  ⟨h.1, fun i hi j hj => by rw [h.2.1 i hi j hj, if_pos (.inl hi)], h.2.2⟩
theorem Pim.step {l l' : List Nat} {o R C L : Nat} {T : Nat → Nat → Nat} {a b : Nat} (h : Pim l o R C L T a b l') (hR : R ≤ L) (ha : a < R) (hb : b < C) (hP : o + a + b * L < l.length) : Pim l o R C L T a (b + 1) (l'.set (o + a + b * L) (T a b)) := by
  refine ⟨by rw [List.length_set]; exact h.1, fun i hi j hj => ?_, fun x hx => ?_⟩
  · by_cases e : i = a ∧ j = b
    · obtain ⟨rfl, rfl⟩ := e
      rw [getD_set_self (by rw [h.1]; exact hP), if_pos (by omega)]
    · rw [getD_set_ne _ (fun e2 => e (by
        have := spots_inj (L := L) (a := a) (b := b) (a' := i) (b' := j) (by omega) (by omega) (by omega)
        exact ⟨this.1.symm, this.2.symm⟩)), h.2.1 i hi j hj]
      by_cases e1 : i < a ∨ (i = a ∧ j < b)
      · rw [if_pos e1, if_pos (by omega)]
      · rw [if_neg e1, if_neg (by omega)]
  · rw [getD_set_ne _ (fun e => hx a ha b hb e.symm), h.2.2 x hx]
/-- What Into comes to. -/
def Intod (n : Nat) (l : List Nat) (o R C L : Nat) (T : List Nat) (w : World) (e : Ending) (w' : World) : Prop := ∃ g c' l', e = .returned (.slice (some ⟨g, 0, none⟩) n c') ∧ Own w' g l' ∧ Img l o R C L (fun a b => T.getD (a * C + b) 0) l' ∧ w.heap.size ≤ g ∧ Below w.heap.size w w'
end Go.Proofs.Ytlhdcajamempoaa
