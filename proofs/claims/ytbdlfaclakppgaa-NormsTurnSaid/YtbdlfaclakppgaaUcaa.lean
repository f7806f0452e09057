/-
At: a number of a table. Conditions: as each says.
-/
import Derived.Test.YtbdlfaclakppgaaMvK
import Derived.Test.YtbdlfaclakppgaaMvY
import Derived.Test.YtbdlfaclakppgaaMvN
import Derived.OwnWalk
import Derived.Test.YtbdlfaclakppgaaInv
import Derived.Laws.CopyRow
import Derived.Laws.IdiomCopy
import Derived.Test.YtbdlfaclakppgaaNrA
import Derived.Test.YtbdlfaclakppgaaNrR
import Derived.Test.YtbdlfaclakppgaaSmC
import Derived.Test.YtbdlfaclakppgaaSmK
import Derived.Shelf.Abstract
set_option linter.unusedVariables false
namespace Go.Proofs.Ytbdlfaclakppgaa
open Go.RowKit
attribute [local go_sem ↓] Go.wp_at_zero Go.wp_at_succ


theorem rat_any (r k : Int) (g n c : Nat) (T : List Nat) (i j p : Nat) (w : World) (hB : Row w (some ⟨g, 0, none⟩) (f64s T)) (hT : T.length = n) (hp : p < n) (hn : n < 9223372036854775808) (he : (i : Int) * k + (j : Int) = (p : Int)) (hm : I64 ((i : Int) * k)) :
    Calls Try.prog 44 #[tbl r k g n c, .int .i64 i, .int .i64 j] w fun e w' => e = .returned (.float .f64 (T.getD p 0)) ∧ Below w.heap.size w w' := by
  unfold I64 at hm
  have hpT : p < T.length := by omega
  obtain ⟨b, o, hbo, hlt, hc⟩ := hB.at_ (f64s_get T p hpT)
  injection hbo with hbo
  injection hbo with e1 e2 _
  subst e1 e2
  rw [Nat.zero_add] at hc
  have hv : T.getD p 0 = T[p] := getD_of_lt hpT
  rw [hv]
  obtain ⟨v, hv2⟩ : ∃ v, T[p] = v := ⟨_, rfl⟩
  rw [hv2] at hc
  rw [hv2]
  have hc2 := cell_below hc (below_one (W := w) (o := .cells #[.int .i64 r, .int .i64 k, .slice (some ⟨g, 0, none⟩) n c] 32))
  have w1 : IntKind.i64.wrap ((i : Int) * k) = (i : Int) * k := wrapi (by omega) (by omega)
  have w2 : IntKind.i64.wrap (p : Int) = (p : Int) := wrapi (by omega) (by omega)
  have hpn : (p : Int) < (n : Int) := by omega
  have hp0 : (0 : Int) ≤ (p : Int) := by omega
  clear hv hv2 hpT hc hB hT hlt
  unfold tbl
  go_enter Try.func44, Try.ntmps44
  go_wp2_with fail
  go_ret
  exact ⟨rfl, (Below.refl w.heap.size w).alloc (Nat.le_refl _) _⟩
end Go.Proofs.Ytbdlfaclakppgaa
/-
The document's Rows of a table. Conditions: the table has at most 2^40 numbers.
-/
set_option linter.unusedVariables false
namespace Go.Proofs.Ytbdlfaclakppgaa
open Go.RowKit
attribute [local go_sem ↓] Go.wp_at_zero Go.wp_at_succ

theorem tab_inj {C a b a' b' : Nat} (hb : b < C) (hb' : b' < C) (h : a * C + b = a' * C + b') : a = a' ∧ b = b' := by
  have h1 : (a * C + b) % C = b := by rw [Nat.mul_add_mod_self_right, Nat.mod_eq_of_lt hb]
  have h2 : (a' * C + b') % C = b' := by rw [Nat.mul_add_mod_self_right, Nat.mod_eq_of_lt hb']
  have e : b = b' := by rw [← h1, h, h2]
  subst e
  have hm : a * C = a' * C := by omega
  exact ⟨Nat.eq_of_mul_eq_mul_right (by omega) hm, rfl⟩
/-- The first q columns have changed rows i and k. -/
def Half (T : List Nat) (i k R C q : Nat) (T' : List Nat) : Prop := T'.length = T.length ∧ ∀ a, a < R → ∀ b, b < C → T'.getD (a * C + b) 0 = if b < q then T.getD (sw i k a * C + b) 0 else T.getD (a * C + b) 0
theorem Half.zero (T : List Nat) (i k R C : Nat) : Half T i k R C 0 T := ⟨rfl, fun a _ b _ => by simp⟩
theorem Half.step {T T' : List Nat} {i k R C q : Nat} (h : Half T i k R C q T') (hi : i < R) (hk : k < R) (hq : q < C) (hT : T.length = R * C) :
    Half T i k R C (q + 1) ((T'.set (i * C + q) (T'.getD (k * C + q) 0)).set (k * C + q) (T'.getD (i * C + q) 0)) := by
  refine ⟨by rw [List.length_set, List.length_set]; exact h.1, fun a ha b hb => ?_⟩
  have hli := tab_lt hi hq
  have hlk := tab_lt hk hq
  have hx := h.2 i hi q hq
  have hy := h.2 k hk q hq
  rw [if_neg (by omega)] at hx hy
  have hl := h.1
  by_cases e : b = q
  · subst e
    rw [if_pos (by omega)]
    by_cases e1 : a = k
    · subst e1
      rw [getD_set_self (by rw [List.length_set]; omega), hx]
      have : sw i a a = i := by
        unfold sw
        by_cases h2 : a = i
        · rw [if_pos h2]; exact h2
        · rw [if_neg h2, if_pos rfl]
      rw [this]
    · rw [getD_set_ne _ (fun e2 => e1 (tab_inj hq hq e2).1.symm)]
      by_cases e2 : a = i
      · subst e2
        rw [getD_set_self (by omega), hy]
        have : sw a k a = k := by unfold sw; rw [if_pos rfl]
        rw [this]
      · rw [getD_set_ne _ (fun e3 => e2 (tab_inj hq hq e3).1.symm), h.2 a ha b hb, if_neg (by omega)]
        have : sw i k a = a := by unfold sw; rw [if_neg e2, if_neg e1]
        rw [this]
  · rw [getD_set_ne _ (fun e2 => e (tab_inj hq hb e2).2.symm), getD_set_ne _ (fun e2 => e (tab_inj hq hb e2).2.symm), h.2 a ha b hb]
    by_cases h2 : b < q
    · rw [if_pos h2, if_pos (by omega)]
    · rw [if_neg h2, if_neg (by omega)]

theorem heldQ3 {W w' : World} {b0 o0 b1 o1 b2 o2 : Nat} {v0 v1 v2 : Value} {R : World → Prop} (h : W.cell? ⟨b0, o0, none⟩ = some v0 ∧ W.cell? ⟨b1, o1, none⟩ = some v1 ∧ W.cell? ⟨b2, o2, none⟩ = some v2 ∧ R W) (hb : Below W.heap.size W w') (hR : R W → R w') :
    w'.cell? ⟨b0, o0, none⟩ = some v0 ∧ w'.cell? ⟨b1, o1, none⟩ = some v1 ∧ w'.cell? ⟨b2, o2, none⟩ = some v2 ∧ R w' :=
  ⟨cell_below h.1 hb, cell_below h.2.1 hb, cell_below h.2.2.1 hb, hR h.2.2.2⟩
theorem heldS3 {W : World} {b0 o0 b1 o1 b2 o2 g j : Nat} {v0 v1 v2 : Value} {R : World → Prop} (u : Value) (h : W.cell? ⟨b0, o0, none⟩ = some v0 ∧ W.cell? ⟨b1, o1, none⟩ = some v1 ∧ W.cell? ⟨b2, o2, none⟩ = some v2 ∧ R W) (hR : R W → R (W.setCell ⟨g, j, none⟩ u)) (n0 : ¬ (b0 = g ∧ o0 = j)) (n1 : ¬ (b1 = g ∧ o1 = j)) (n2 : ¬ (b2 = g ∧ o2 = j)) :
    (W.setCell ⟨g, j, none⟩ u).cell? ⟨b0, o0, none⟩ = some v0 ∧ (W.setCell ⟨g, j, none⟩ u).cell? ⟨b1, o1, none⟩ = some v1 ∧ (W.setCell ⟨g, j, none⟩ u).cell? ⟨b2, o2, none⟩ = some v2 ∧ R (W.setCell ⟨g, j, none⟩ u) :=
  ⟨(cell_set2 n0 u).trans h.1, (cell_set2 n1 u).trans h.2.1, (cell_set2 n2 u).trans h.2.2.1, hR h.2.2.2⟩
end Go.Proofs.Ytbdlfaclakppgaa
/-
The document's Take of a table. Conditions: the table has at most 2^20 numbers.
-/
set_option linter.unusedVariables false
namespace Go.Proofs.Ytbdlfaclakppgaa
open Go.RowKit
attribute [local go_sem ↓] Go.wp_at_zero Go.wp_at_succ

/-- The table's rows stand as the first q changes of the order have it. -/
def Prm (T : List Nat) (zs : List Int) (R C q : Nat) (T' : List Nat) : Prop := T'.length = T.length ∧ ∀ a, a < R → ∀ b, b < C → T'.getD (a * C + b) 0 = T.getD (prm zs q a * C + b) 0
theorem Prm.step {T T' T2 : List Nat} {zs : List Int} {R C q j : Nat} (h : Prm T zs R C q T') (h2 : Half T' q j R C C T2) (hq : q < R) (hj : j < R) (e : ∀ a, prm zs (q + 1) a = prm zs q (sw q j a)) : Prm T zs R C (q + 1) T2 :=
  ⟨h2.1.trans h.1, fun a ha b hb => by
    rw [h2.2 a ha b hb, if_pos hb, h.2 _ (sw_lt hq hj ha) b hb, e]⟩

theorem heldG4 {W w' : World} {G : List Nat} {b0 o0 b1 o1 b2 o2 b3 o3 : Nat} {v0 v1 v2 v3 : Value} {R : World → Prop} (h : W.cell? ⟨b0, o0, none⟩ = some v0 ∧ W.cell? ⟨b1, o1, none⟩ = some v1 ∧ W.cell? ⟨b2, o2, none⟩ = some v2 ∧ W.cell? ⟨b3, o3, none⟩ = some v3 ∧ R W) (hc : Chg G W w') (n0 : b0 ∉ G) (n1 : b1 ∉ G) (n2 : b2 ∉ G) (n3 : b3 ∉ G) (hR : R W → R w') :
    w'.cell? ⟨b0, o0, none⟩ = some v0 ∧ w'.cell? ⟨b1, o1, none⟩ = some v1 ∧ w'.cell? ⟨b2, o2, none⟩ = some v2 ∧ w'.cell? ⟨b3, o3, none⟩ = some v3 ∧ R w' :=
  ⟨hc.cell n0 h.1, hc.cell n1 h.2.1, hc.cell n2 h.2.2.1, hc.cell n3 h.2.2.2.1, hR h.2.2.2.2⟩
end Go.Proofs.Ytbdlfaclakppgaa
/-
The document's Into: a list with a table at a matrix' places. Conditions: the matrix is right, its list and the table have at most 2^20 numbers.
-/
set_option linter.unusedVariables false
set_option linter.unusedSimpArgs false
namespace Go.Proofs.Ytbdlfaclakppgaa
open Go.RowKit
attribute [local go_sem ↓] Go.wp_at_zero Go.wp_at_succ

/-- The list has the table T at the matrix' first places, by rows, and is else as it was. -/
def Pim (l : List Nat) (o R C L : Nat) (T : Nat → Nat → Nat) (a b : Nat) (l' : List Nat) : Prop :=
  l'.length = l.length ∧ (∀ i, i < R → ∀ j, j < C → l'.getD (o + i + j * L) 0 = if i < a ∨ (i = a ∧ j < b) then T i j else l.getD (o + i + j * L) 0) ∧ ∀ x, (∀ i, i < R → ∀ j, j < C → x ≠ o + i + j * L) → l'.getD x 0 = l.getD x 0
theorem Pim.zero (l : List Nat) (o R C L : Nat) (T : Nat → Nat → Nat) : Pim l o R C L T 0 0 l := ⟨rfl, fun i _ j _ => by rw [if_neg (by omega)], fun _ _ => rfl⟩
theorem Pim.next {l l' : List Nat} {o R C L : Nat} {T : Nat → Nat → Nat} {a : Nat} (h : Pim l o R C L T a C l') : Pim l o R C L T (a + 1) 0 l' :=
  ⟨h.1, fun i hi j hj => by
    rw [h.2.1 i hi j hj]
    by_cases e : i < a ∨ (i = a ∧ j < C)
    · rw [if_pos e, if_pos (by omega)]
    · rw [if_neg e, if_neg (by omega)], h.2.2⟩
theorem Pim.done {l l' : List Nat} {o R C L : Nat} {T : Nat → Nat → Nat} (h : Pim l o R C L T R 0 l') : Img l o R C L T l' :=
  ⟨h.1, fun i hi j hj => by rw [h.2.1 i hi j hj, if_pos (.inl hi)], h.2.2⟩
theorem Pim.step {l l' : List Nat} {o R C L : Nat} {T : Nat → Nat → Nat} {a b : Nat} (h : Pim l o R C L T a b l') (hR : R ≤ L) (ha : a < R) (hb : b < C) (hP : o + a + b * L < l.length) : Pim l o R C L T a (b + 1) (l'.set (o + a + b * L) (T a b)) := by
  refine ⟨by rw [List.length_set]; exact h.1, fun i hi j hj => ?_, fun x hx => ?_⟩
  · by_cases e : i = a ∧ j = b
    · obtain ⟨rfl, rfl⟩ := e
      rw [getD_set_self (by rw [h.1]; exact hP), if_pos (by omega)]
    · rw [getD_set_ne _ (fun e2 => e (by
        have := spots_inj (L := L) (a := a) (b := b) (a' := i) (b' := j) (by omega) (by omega) (by omega)
        exact ⟨this.1.symm, this.2.symm⟩)), h.2.1 i hi j hj]
      by_cases e1 : i < a ∨ (i = a ∧ j < b)
      · rw [if_pos e1, if_pos (by omega)]
      · rw [if_neg e1, if_neg (by omega)]
  · rw [getD_set_ne _ (fun e => hx a ha b hb e.symm), h.2.2 x hx]
/-- What Into comes to. -/
def Intod (n : Nat) (l : List Nat) (o R C L : Nat) (T : List Nat) (w : World) (e : Ending) (w' : World) : Prop := ∃ g c' l', e = .returned (.slice (some ⟨g, 0, none⟩) n c') ∧ Own w' g l' ∧ Img l o R C L (fun a b => T.getD (a * C + b) 0) l' ∧ w.heap.size ≤ g ∧ Below w.heap.size w w'
end Go.Proofs.Ytbdlfaclakppgaa
/-
Numbers of a matrix, column by column. Conditions: the matrix is right, its list has at most 2^20 numbers.
-/
set_option linter.unusedVariables false
set_option linter.unusedSimpArgs false
namespace Go.Proofs.Ytbdlfaclakppgaa
open Go.RowKit
attribute [local go_sem ↓] Go.wp_at_zero Go.wp_at_succ

/-- The numbers of the first columns, column by column. -/
def colsL (l : List Nat) (o R L : Nat) : Nat → List Nat
  | 0 => []
  | j + 1 => colsL l o R L j ++ lst l (o + j * L) 1 R
theorem colsL_length (l : List Nat) (o R L : Nat) : ∀ j, (colsL l o R L j).length = j * R
  | 0 => by simp [colsL]
  | j + 1 => by rw [colsL, List.length_append, colsL_length l o R L j, lst_length, Nat.add_mul]; omega
theorem colsL_getD (l : List Nat) (o R L : Nat) {a b : Nat} (ha : a < R) : ∀ {j : Nat}, b < j → (colsL l o R L j).getD (b * R + a) 0 = l.getD (o + a + b * L) 0
  | 0, h => by omega
  | j + 1, h => by
    have hlen := colsL_length l o R L j
    rw [colsL]
    by_cases hb : b < j
    · have h1 : b * R + a < j * R := by
        have : (b + 1) * R ≤ j * R := Nat.mul_le_mul_right _ (by omega)
        rw [Nat.add_mul] at this; omega
      rw [List.getD_eq_getElem?_getD, List.getElem?_append_left (by omega), ← List.getD_eq_getElem?_getD]
      exact colsL_getD l o R L ha hb
    · obtain rfl : b = j := by omega
      rw [List.getD_eq_getElem?_getD, List.getElem?_append_right (by omega), ← List.getD_eq_getElem?_getD, hlen, show b * R + a - b * R = a by omega, lst_getD l _ 1 ha]
      congr 1
      omega
theorem mat_size {n o R C L : Nat} (hR : R ≤ L) (hr : R = 0 ∨ C = 0 ∨ o + (C - 1) * L + (R - 1) < n) : R * C ≤ n := by
  by_cases h0 : R = 0
  · subst h0; simp
  by_cases h1 : C = 0
  · subst h1; simp
  have h2 : (C - 1) * R ≤ (C - 1) * L := Nat.mul_le_mul_left _ hR
  have h3 : R * C = (C - 1) * R + R := by
    obtain ⟨C', rfl⟩ : ∃ C', C = C' + 1 := ⟨C - 1, by omega⟩
    rw [Nat.add_sub_cancel, Nat.mul_add, Nat.mul_comm]; omega
  omega
theorem colsL_wds {l : List Nat} (h : Wds l) (o R L : Nat) : ∀ j, Wds (colsL l o R L j)
  | 0 => by intro b hb; cases hb
  | j + 1 => by
    intro b hb
    rw [colsL, List.mem_append] at hb
    rcases hb with hb | hb
    · exact colsL_wds h o R L j b hb
    · unfold lst at hb
      obtain ⟨i, _, rfl⟩ := List.mem_map.1 hb
      rcases Nat.lt_or_ge (o + j * L + i * 1) l.length with h1 | h1
      · rw [getD_of_lt h1]; exact h.at_ _ h1
      · rw [getD_of_le h1]; omega
theorem f64s_app (l m : List Nat) : f64s (l ++ m) = f64s l ++ f64s m := by simp [f64s]

theorem owns_nxt {w w' : World} {B : Nat} {e : TypeId} {s : Nat} {v : Value} {n : Nat} {xs : List Value} (h : w.ownsRow B e s v n xs) (hb : Below w.heap.size w w') : w'.ownsRow B e s v n xs := by
  refine ⟨h.1, h.2.imp id ?_⟩
  rintro ⟨g, cap, cur, h1, h2, h3, h4⟩
  have hg : g < w.heap.size := by
    rcases Nat.lt_or_ge g w.heap.size with hl | hl
    · exact hl
    · rw [Array.getElem?_eq_none hl] at h3; cases h3
  exact ⟨g, cap, cur, h1, h2, (hb.block g hg).trans h3, h4⟩

theorem own_row3 {w : World} {B : Nat} {v : Value} {n : Nat} {l : List Nat} (h : w.ownsRow B 27 1 v n (f64s l)) (hn : n = l.length) : ∃ A c, v = .slice A n c ∧ Row w A (f64s l) ∧ (∀ b o, A = some ⟨b, o, none⟩ → B ≤ b) ∧ n ≤ c := by
  by_cases hv : v = .slice none 0 0
  · subst hv
    have hl := h.1
    obtain ⟨_, ⟨_, h0⟩ | ⟨g, cap, cur, h1, _⟩⟩ := h
    · subst h0
      have : l = [] := List.length_eq_zero_iff.1 hn.symm
      subst this
      exact ⟨none, 0, rfl, .inl rfl, (fun b o e => by cases e), Nat.le_refl _⟩
    · cases h1
  · obtain ⟨g, c, rfl, hg, hc, _, ho⟩ := own_of h hv hn
    exact ⟨_, c, rfl, ho.row, (fun b o e => by injection e with e; injection e with e _; omega), hc⟩
theorem own_row2 {w : World} {B : Nat} {v : Value} {n : Nat} {l : List Nat} (h : w.ownsRow B 27 1 v n (f64s l)) (hn : n = l.length) : ∃ A c, v = .slice A n c ∧ Row w A (f64s l) ∧ ∀ b o, A = some ⟨b, o, none⟩ → B ≤ b := by
  obtain ⟨A, c, h1, h2, h3, _⟩ := own_row3 h hn
  exact ⟨A, c, h1, h2, h3⟩

/-- What Numbers comes to, with its room. -/
def Numr (N : Nat) (X : List Nat) (w : World) (e : Ending) (w' : World) : Prop := ∃ B d, e = .returned (.slice B N d) ∧ Row w' B (f64s X) ∧ (∀ b o, B = some ⟨b, o, none⟩ → w.heap.size ≤ b) ∧ N ≤ d ∧ Below w.heap.size w w'
/-- What Numbers comes to. -/
def Numd (N : Nat) (X : List Nat) (w : World) (e : Ending) (w' : World) : Prop := ∃ B d, e = .returned (.slice B N d) ∧ Row w' B (f64s X) ∧ (∀ b o, B = some ⟨b, o, none⟩ → w.heap.size ≤ b) ∧ Below w.heap.size w w'
theorem numbers_none (A : Option Addr) (n c : Nat) (o R C L : Nat) (w : World) (hn : n < 1048576) (hgd : matB n o R C L = true) (hb : o < 9223372036854775808 ∧ R < 9223372036854775808 ∧ C < 9223372036854775808 ∧ L < 9223372036854775808) (h0 : R = 0 ∨ C = 0) :
    Calls Try.prog 29 #[mat A n c o R C L] w fun e w' => e = .returned (.slice none 0 0) ∧ Below w.heap.size w w' := by
  have HG := Lib.hid (fun W => good_any A n c o R C L W (by omega) (by unfold I64; omega) (by unfold I64; omega) (by unfold I64; omega) (by unfold I64; omega))
  rw [hgd] at HG
  have HNo := Lib.hid (fun W => none_any A n c o R C L W)
  rw [show (((R : Int) == 0) || ((C : Int) == 0)) = true by simp; omega] at HNo
  clear hn hgd hb h0
  unfold mat at *
  go_enter Try.func29, Try.ntmps29
  have HZ0 := Lib.hid (Blk.new w 24 #[.slice A n c, .int .i64 o, .int .i64 R, .int .i64 C, .int .i64 L])
  have HB0 := Lib.hid ((Below.refl w.heap.size w).alloc (Nat.le_refl _) (.cells #[.slice A n c, .int .i64 o, .int .i64 R, .int .i64 C, .int .i64 L] 24))
  go_wp2_with fail
  refine (HG.out _).mono ?_
  rintro e w1 ⟨rfl, hb⟩
  have HZ1 := Lib.hid (HZ0.out.nxt hb)
  have HB1 := Lib.hid (below_nx HB0.out hb)
  clear hb
  obtain ⟨c0, c1, c2, c3, c4⟩ := cells5 HZ1.out
  go_wp2_with fail
  refine (HNo.out _).mono ?_
  rintro e w2 ⟨rfl, hb⟩
  have HB2 := Lib.hid (below_nx HB1.out hb)
  clear hb c0 c1 c2 c3 c4
  go_wp2_with fail
  go_ret
  exact ⟨rfl, HB2.out⟩

theorem nm_facts {R C N n : Nat} (hN : R * C = N) (hNn : N ≤ n) (hn : n < 1048576) (hR0 : R ≠ 0) :
    (R : Int) * (C : Int) = (N : Int) ∧ wrap64 (N : Int) = (N : Int) ∧ IntKind.i64.wrap (N : Int) = (N : Int) ∧ (∀ j, j ≤ C → j * R ≤ N) ∧ C * R = N ∧ N < 1048576 ∧ C < 1048576 := by
  have h1 : C * 1 ≤ C * R := Nat.mul_le_mul_left _ (by omega)
  have h2 : C * R = N := by rw [← hN, Nat.mul_comm]
  have h3 : (R : Int) * (C : Int) = (N : Int) := by rw [← hN, Int.natCast_mul]
  clear hN
  refine ⟨h3, ?_, ?_, fun j hj => ?_, h2, by omega, by omega⟩
  · clear h3; exact wrap_id (by unfold I64; omega)
  · clear h3; exact wrapi (by omega) (by omega)
  · rw [← h2]; exact Nat.mul_le_mul_right _ hj

theorem row_sub {w W : World} {b x P R : Nat} {l : List Nat} (hA : Row w (some ⟨b, x, none⟩) (f64s l)) (hb : Below w.heap.size w W) (hP : P + R ≤ l.length) (i : Nat) (u : Value) (h : (f64s (lst l P 1 R))[i]? = some u) : W.cell? ⟨b, x + P + i, none⟩ = some u := by
  obtain ⟨hi', rfl⟩ := f64s_get? h
  have hi2 := hi'
  rw [lst_length] at hi2
  have hPl : P + i < l.length := by omega
  rcases hA with h0 | ⟨b', x', e', hc⟩
  · have : l = [] := by simpa [f64s] using h0
    subst this; simp at hPl
  · injection e' with e'; injection e' with e1 e2
    subst e1; subst e2
    have h2 := hc (P + i) _ (f64s_get l _ hPl)
    have h3 := cell_below h2 hb
    have h4 : (lst l P 1 R)[i] = l[P + i] := by
      rw [← getD_of_lt hi', lst_getD l P 1 hi2, Nat.mul_one, getD_of_lt hPl]
    rw [h4, Nat.add_assoc]; exact h3
theorem addr_at (b o j : Nat) : (⟨b, o, none⟩ : Addr).add j = ⟨b, o + j, none⟩ := by unfold Addr.add; split <;> simp_all
theorem nm_ne {P R n c : Nat} (hP : P + R ≤ n) (hnc : n ≤ c) (hR : 1 ≤ R) : ¬ c = P := by omega
theorem nm_step {P R n c : Nat} (hP : P + R ≤ n) (hnc : n ≤ c) (hn : n < 1048576) : ∃ Q1 : Nat, P + R = Q1 ∧ (P : Int) + (R : Int) = (Q1 : Int) ∧ IntKind.i64.wrap (Q1 : Int) = (Q1 : Int) ∧ wrap64 (Q1 : Int) = (Q1 : Int) ∧ Q1 - P = R ∧ (P : Int) ≤ (Q1 : Int) ∧ (Q1 : Int) ≤ (c : Int) ∧ (0 : Int) ≤ (P : Int) :=
  ⟨P + R, rfl, by omega, wrapi (by omega) (by omega), wrap_id (by unfold I64; omega), by omega, by omega, by omega, by omega⟩
set_option maxRecDepth 100000 in
set_option maxHeartbeats 300000 in
theorem numbers_room (b x : Nat) (n c : Nat) (l : List Nat) (o R C L N : Nat) (w : World) (hA : Row w (some ⟨b, x, none⟩) (f64s l)) (hl : l.length = n) (hnc : n ≤ c) (hn : n < 1048576) (hgd : matB n o R C L = true) (hb : o < 9223372036854775808 ∧ R < 9223372036854775808 ∧ C < 9223372036854775808 ∧ L < 9223372036854775808) (hN : R * C = N) (hNn : N ≤ n) (hR0 : R ≠ 0) (hC0 : C ≠ 0) (hrr : o + (C - 1) * L + (R - 1) < n) :
    Calls Try.prog 29 #[mat (some ⟨b, x, none⟩) n c o R C L] w fun e w' => Numr N (colsL l o R L C) w e w' := by
  obtain ⟨i0, hi, hz0, hz1, hz2⟩ := fi0
  have HG := Lib.hid (fun W => good_any (some ⟨b, x, none⟩) n c o R C L W (by omega) (by unfold I64; omega) (by unfold I64; omega) (by unfold I64; omega) (by unfold I64; omega))
  rw [hgd] at HG
  have HNo := Lib.hid (fun W => none_any (some ⟨b, x, none⟩) n c o R C L W)
  rw [show (((R : Int) == 0) || ((C : Int) == 0)) = false by simp; omega] at HNo
  have HP := Lib.hid (fun j (hj : j < C) => show o + j * L + R ≤ n from by
    have h1 : j * L ≤ (C - 1) * L := Nat.mul_le_mul_right _ (by omega)
    omega)
  have HPl := Lib.hid (fun W j (hj : j < C) => place_any (some ⟨b, x, none⟩) n c o R C L 0 j ((o + j * L : Nat) : Int) W (by simp) (by unfold I64; have := HP.out j hj; omega) (by
    have := HP.out j hj
    have e : ((j : Int) * (L : Int)) = ((j * L : Nat) : Int) := by simp
    rw [e]; unfold I64; omega) (by unfold I64; have := HP.out j hj; omega))
  have HA := Lib.hid hA
  have Hl := Lib.hid hl
  obtain ⟨hN2, hwN, hwN2, hCN, hCe, hNb, hCb⟩ := nm_facts hN hNn hn hR0
  have HCN := Lib.hid hCN
  have HCe := Lib.hid hCe
  clear hCN hCe
  have hnc1 : (n : Int) ≤ (c : Int) := by omega
  have hR1 : 1 ≤ R := by omega
  clear hA hl hgd hb hN hrr hR0 hC0
  unfold mat at *
  go_enter Try.func29, Try.ntmps29
  have HZ0 := Lib.hid (Blk.new w 24 #[.slice (some ⟨b, x, none⟩) n c, .int .i64 o, .int .i64 R, .int .i64 C, .int .i64 L])
  have HB0 := Lib.hid ((Below.refl w.heap.size w).alloc (Nat.le_refl _) (.cells #[.slice (some ⟨b, x, none⟩) n c, .int .i64 o, .int .i64 R, .int .i64 C, .int .i64 L] 24))
  go_wp2_with fail
  refine (HG.out _).mono ?_
  rintro e w1 ⟨rfl, hb⟩
  have HZ1 := Lib.hid (HZ0.out.nxt hb)
  have HB1 := Lib.hid (below_nx HB0.out hb)
  clear hb
  obtain ⟨c0, c1, c2, c3, c4⟩ := cells5 HZ1.out
  go_wp2_with fail
  refine (HNo.out _).mono ?_
  rintro e w2 ⟨rfl, hb⟩
  have HZ2 := Lib.hid (HZ1.out.nxt hb)
  have HB2 := Lib.hid (below_nx HB1.out hb)
  clear hb c0 c1 c2 c3 c4
  obtain ⟨c0, c1, c2, c3, c4⟩ := cells5 HZ2.out
  have hz2l := HZ2.out.lt
  go_wp2_with (at_make; refine wpList_make_own _ rfl _ _ 22 rfl (w.heap.size + 1) 27 i0 (.float .f64 0) 1 Try.underlying22 hi hz0 hz1 .i64 .i64 (N : Int) N rfl (by simp [Act.eval, hN2, hwN2]) rfl ?m1 ?m2 ?m3 ?_)
  case m1 => rw [hz2]; omega
  case m2 => unfold maxLen; omega
  case m3 => omega
  intro w3 hown hgrow
  have HOw := Lib.hid hown
  have hO : Below w2.heap.size w2 w3 := ⟨hgrow.os, hgrow.tape, hgrow.output, hgrow.size, fun k hk => hgrow.block k hk (fun e => by cases e)⟩
  have HZ3 := Lib.hid (HZ2.out.nxt hO)
  have HB3 := Lib.hid (below_nx HB2.out hO)
  have hsz3 := hO.size
  clear hown hgrow hO c0 c1 c2 c3 c4
  obtain ⟨c0, c1, c2, c3, c4⟩ := cells5 HZ3.out
  generalize hz : w.heap.size = z at *
  have Hz := Lib.hid hz
  clear hz
  go_wp2_with fail
  clear c0 c1 c2 c3 c4 hN2 hwN hwN2
  go_loopw [3, 21] (fun out a wr => ∃ q : Nat, q ≤ C ∧ a = .int .i64 q ∧ wr.ownsRow (z + 1) 27 1 out (q * R) (f64s (colsL l o R L q)) ∧ Below z w wr ∧ Blk wr z 24 #[.slice (some ⟨b, x, none⟩) n c, .int .i64 o, .int .i64 R, .int .i64 C, .int .i64 L] ∧ z + 1 ≤ wr.heap.size) (fun _ a _ => C - (intOf a).toNat)
  case atStart => exact ⟨0, Nat.zero_le _, rfl, by rw [Nat.zero_mul]; exact HOw.out, HB3.out, HZ3.out, by omega⟩
  case round =>
    obtain ⟨q, hq, rfl, hown, hbl, hbz, hsz⟩ := hrel
    have HOw1 := Lib.hid hown
    have HBl := Lib.hid hbl
    have HBz := Lib.hid hbz
    have HSz := Lib.hid hsz
    clear hown hbl hbz hsz
    obtain ⟨c0, c1, c2, c3, c4⟩ := cells5 HBz.out
    by_cases hlt : q < C
    · have hP := HP.out q hlt
      have HPq := Lib.hid (fun W => HPl.out W q hlt)
      obtain ⟨P, hPd⟩ : ∃ P, o + q * L = P := ⟨_, rfl⟩
      rw [hPd] at hP HPq
      have hqN : (q + 1) * R ≤ N := HCN.out (q + 1) (by omega)
      have hqe : (q + 1) * R = q * R + R := by rw [Nat.add_mul]; omega
      have hstep : f64s (colsL l o R L (q + 1)) = f64s (colsL l o R L q) ++ f64s (lst l P 1 R) := by rw [colsL, f64s_app, hPd]
      have HStep := Lib.hid hstep
      have HQe := Lib.hid hqe
      have HQN := Lib.hid (show q * R + R ≤ N by rw [← hqe]; exact hqN)
      clear hPd hstep hqe hqN
      have hqc : (q : Int) < (C : Int) := by omega
      have hq1 : q + 1 ≤ 1048576 := by omega
      obtain ⟨Q1, hQ1, hPR0, hPR, hPR2, hQR, hb1, hb2, hb3⟩ := nm_step hP hnc hn
      have hcP : ¬ c = P := nm_ne hP hnc hR1
      clear hQ1
      go_wp2_with fail
      refine (HPq.out _).mono ?_
      rintro e w4 ⟨rfl, hb⟩
      have HOw2 := Lib.hid (show w4.ownsRow (z + 1) 27 1 _ (q * R) (f64s (colsL l o R L q)) from owns_nxt HOw1.out hb)
      have HBl2 := Lib.hid (show Below z w w4 from HBl.out.trans (hb.mono (Nat.le_of_lt HBz.out.lt)))
      have HBz2 := Lib.hid (HBz.out.nxt hb)
      have HSz2 := Lib.hid (show z + 1 ≤ w4.heap.size from Nat.le_trans HSz.out hb.size)
      have HRs := Lib.hid (row_sub HA.out (show Below w.heap.size w w4 by rw [Hz.out]; exact HBl2.out) (show P + R ≤ l.length by rw [Hl.out]; exact hP))
      clear hb c0 c1 c2 c3 c4
      obtain ⟨c0, c1, c2, c3, c4⟩ := cells5 HBz2.out
      go_wp2_with (at_builtin; refine wpList_append_own _ rfl _ _ 22 rfl (z + 1) 27 i0 (.float .f64 0) 1 8 Try.underlying22 hi hz0 hz1 hz2 rfl (by decide) _ (q * R) (f64s (colsL l o R L q)) rfl HOw2.out ⟨b, x + P, none⟩ R (c - P) (f64s (lst l P 1 R)) (by simp [Act.eval, hQR, hcP]) (by simp [f64s, lst_length]) ?c1 (one_cells _) ?c3 ?c4 ?c5 ?_)
      case c1 => intro j u hu; rw [addr_at]; exact HRs.out j u hu
      case c3 => exact Nat.le_trans HQN.out (by unfold maxLen; omega)
      case c4 => exact Nat.le_trans (Nat.mul_le_mul_right 8 HQN.out) (by omega)
      case c5 => exact HSz2.out
      intro v' w' hown' hgrow _
      rw [← HStep.out, ← HQe.out] at hown'
      have HOw3 := Lib.hid hown'
      have hlt2 := fun k hk => (HOw2.out.lt k hk)
      have hz2' := HBz2.out.lt
      have HBl3 := Lib.hid (HBl2.out.grown hgrow (by omega) (fun k hk => by have := (hlt2 k hk).1; omega))
      have HBz3 := Lib.hid (show Blk w' z 24 #[.slice (some ⟨b, x, none⟩) n c, .int .i64 o, .int .i64 R, .int .i64 C, .int .i64 L] from (hgrow.block z hz2' (fun e => by have := (hlt2 z e.symm).1; omega)).trans HBz2.out)
      have HSz3 := Lib.hid (show z + 1 ≤ w'.heap.size from Nat.le_trans HSz2.out hgrow.size)
      clear hown' hgrow hlt2 hz2' c0 c1 c2 c3 c4
      go_wp2_with fail
      go_roundw
      case rel => exact ⟨q + 1, by omega, by go_num, HOw3.out, HBl3.out, HBz3.out, HSz3.out⟩
      case measure => simp [intOf]; omega
    · obtain rfl : q = C := by omega
      have hqc : ¬ (q : Int) < (q : Int) := by omega
      obtain ⟨A', c', rfl, hrow, hbb, hcc'⟩ := own_row3 HOw1.out (by rw [colsL_length])
      have HCc := Lib.hid hcc'
      have HBb := Lib.hid hbb
      have HRow := Lib.hid hrow
      have e9 := HCe.out
      clear hrow hbb hcc'
      go_wp2_with fail
      go_ret
      exact ⟨A', c', rfl, HRow.out, fun b o e => by have := HBb.out b o e; have := Hz.out; omega, by rw [← HCe.out]; exact HCc.out, by rw [Hz.out]; exact HBl.out⟩
theorem numbers_some (b x : Nat) (n c : Nat) (l : List Nat) (o R C L N : Nat) (w : World) (hA : Row w (some ⟨b, x, none⟩) (f64s l)) (hl : l.length = n) (hnc : n ≤ c) (hn : n < 1048576) (hgd : matB n o R C L = true) (hb : o < 9223372036854775808 ∧ R < 9223372036854775808 ∧ C < 9223372036854775808 ∧ L < 9223372036854775808) (hN : R * C = N) (hNn : N ≤ n) (hR0 : R ≠ 0) (hC0 : C ≠ 0) (hrr : o + (C - 1) * L + (R - 1) < n) :
    Calls Try.prog 29 #[mat (some ⟨b, x, none⟩) n c o R C L] w fun e w' => Numd N (colsL l o R L C) w e w' :=
  (numbers_room b x n c l o R C L N w hA hl hnc hn hgd hb hN hNn hR0 hC0 hrr).mono fun e w' ⟨B, d, h1, h2, h3, _, h4⟩ => ⟨B, d, h1, h2, h3, h4⟩
end Go.Proofs.Ytbdlfaclakppgaa
/-
Clone: a new matrix with a matrix' numbers. Conditions: the matrix is right, its list has at most 2^20 numbers, its sizes are at most 64.
-/
set_option linter.unusedVariables false
set_option linter.unusedSimpArgs false
set_option linter.unnecessarySimpa false
namespace Go.Proofs.Ytbdlfaclakppgaa
open Go.RowKit
attribute [local go_sem ↓] Go.wp_at_zero Go.wp_at_succ

theorem numbers_any (A : Option Addr) (n c : Nat) (l : List Nat) (o R C L N : Nat) (w : World) (hA : Row w A (f64s l)) (hl : l.length = n) (hnc : n ≤ c) (hn : n < 1048576) (hb : o < 9223372036854775808 ∧ R < 9223372036854775808 ∧ C < 9223372036854775808 ∧ L < 9223372036854775808) (hN : R * C = N) (hL : 1 ≤ L) (hR : R ≤ L) (hr : R = 0 ∨ C = 0 ∨ o + (C - 1) * L + (R - 1) < n) :
    Calls Try.prog 29 #[mat A n c o R C L] w fun e w' => Numd N (colsL l o R L C) w e w' := by
  have hgd := mat_right hL hR hr
  by_cases h0 : R = 0 ∨ C = 0
  · have hN0 : N = 0 := by rw [← hN]; rcases h0 with rfl | rfl <;> simp
    have hX : colsL l o R L C = [] := List.length_eq_zero_iff.1 (by rw [colsL_length, Nat.mul_comm, hN, hN0])
    refine (numbers_none A n c o R C L w hn hgd hb h0).mono ?_
    rintro e w' ⟨h1, h2⟩
    exact ⟨none, 0, by rw [h1, hN0], by rw [hX]; exact .inl rfl, (fun b o e => by cases e), h2⟩
  · have hrr : o + (C - 1) * L + (R - 1) < n := by omega
    cases A with
    | some a =>
      rcases hA with h | ⟨b, x, e, hc⟩
      · have : l = [] := by simpa [f64s] using h
        subst this
        simp at hl
        omega
      · obtain rfl : a = ⟨b, x, none⟩ := by simpa using e
        exact numbers_some b x n c l o R C L N w (.inr ⟨b, x, rfl, hc⟩) hl hnc hn hgd hb hN (by rw [← hN]; exact mat_size hR hr) (by omega) (by omega) hrr
    | none =>
      rcases hA with h | ⟨b, x, h, _⟩
      · have : l = [] := by simpa [f64s] using h
        subst this
        simp at hl
        omega
      · cases h
theorem numbers_roomy (A : Option Addr) (n c : Nat) (l : List Nat) (o R C L N : Nat) (w : World) (hA : Row w A (f64s l)) (hl : l.length = n) (hnc : n ≤ c) (hn : n < 1048576) (hb : o < 9223372036854775808 ∧ R < 9223372036854775808 ∧ C < 9223372036854775808 ∧ L < 9223372036854775808) (hN : R * C = N) (hL : 1 ≤ L) (hR : R ≤ L) (hr : R = 0 ∨ C = 0 ∨ o + (C - 1) * L + (R - 1) < n) :
    Calls Try.prog 29 #[mat A n c o R C L] w fun e w' => Numr N (colsL l o R L C) w e w' := by
  have hgd := mat_right hL hR hr
  by_cases h0 : R = 0 ∨ C = 0
  · have hN0 : N = 0 := by rw [← hN]; rcases h0 with rfl | rfl <;> simp
    have hX : colsL l o R L C = [] := List.length_eq_zero_iff.1 (by rw [colsL_length, Nat.mul_comm, hN, hN0])
    refine (numbers_none A n c o R C L w hn hgd hb h0).mono ?_
    rintro e w' ⟨h1, h2⟩
    exact ⟨none, 0, by rw [h1, hN0], by rw [hX]; exact .inl rfl, (fun b o e => by cases e), by omega, h2⟩
  · have hrr : o + (C - 1) * L + (R - 1) < n := by omega
    cases A with
    | some a =>
      rcases hA with h | ⟨b, x, e, hc⟩
      · have : l = [] := by simpa [f64s] using h
        subst this
        simp at hl
        omega
      · obtain rfl : a = ⟨b, x, none⟩ := by simpa using e
        exact numbers_room b x n c l o R C L N w (.inr ⟨b, x, rfl, hc⟩) hl hnc hn hgd hb hN (by rw [← hN]; exact mat_size hR hr) (by omega) (by omega) hrr
    | none =>
      rcases hA with h | ⟨b, x, h, _⟩
      · have : l = [] := by simpa [f64s] using h
        subst this
        simp at hl
        omega
      · cases h
theorem info1_f64 : (Try.prog.info? 27).map (·.size) = some 1 := by kernel_rfl
/-- What copy comes to where all goes over. -/
theorem run_copy_all (W : World) (ty : TypeId) (g N c d : Nat) (B : Option Addr) (cur : Array Value) (M : List Nat) (hg : Blk W g 27 cur) (hcur : cur.size = N) (hM : M.length = N) (hB : Row W B (f64s M)) :
    ∃ W', (Builtin.copy_ #[22, 22] ty #[.slice (some ⟨g, 0, none⟩) N c, .slice B N d]).run Try.prog W = .ok (goInt N) W' ∧ Blk W' g 27 (f64s M).toArray ∧ Only g W W' := by
  by_cases h0 : N = 0
  · subst h0
    obtain rfl : M = [] := List.length_eq_zero_iff.1 hM
    refine ⟨W, run_copy_none W _ _ _ 27 _ _ _ _ _ _ Try.underlying22 info1_f64 rfl, ?_, Only.refl _ _⟩
    have : cur = #[] := Array.eq_empty_of_size_eq_zero hcur
    subst this; exact hg
  · rcases hB with h | ⟨b, o, rfl, hc⟩
    · have : M = [] := by simpa [f64s] using h
      subst this; simp at hM; omega
    · have hlen : (f64s M).length = N := by simp [f64s, hM]
      have h1 := run_copy_row (P := Try.prog) W 22 22 ty 27 g 0 N c ⟨b, o, none⟩ N d cur 27 (f64s M) Try.underlying22 info1_f64 hg (by rw [hlen]; exact (Nat.min_self N).symm) (fun j v h => by
        have := hc j v h
        rw [addr_at]; exact this) (by rw [hlen]; omega) (one_cells M)
      have e : (List.take 0 cur.toList ++ f64s M ++ List.drop (0 + (f64s M).length) cur.toList).toArray = (f64s M).toArray := by
        rw [hlen, List.drop_eq_nil_of_le (by simp; omega)]; simp
      rw [e, hlen] at h1
      refine ⟨_, h1, setRow_heap W g cur _ _ _ hg, ⟨rfl, rfl, rfl, by simp, fun k hk hne => setRow_other W g k _ (fun e => hne (by rw [e]))⟩⟩
/-- Before and behind the copying. -/
def CopyB (W0 : World) (g : Nat) (X : List Nat) (d4 : Bool) (W : World) : Prop := (d4 = false → Below W0.heap.size W0 W) ∧ (d4 = true → Blk W g 27 (f64s X).toArray ∧ Only g W0 W)
theorem max_int (R C : Nat) : (if (R : Int) < (C : Int) then (C : Int) else (R : Int)) = ((max R C : Nat) : Int) := by split <;> omega

theorem run_max_nat (P : Program) (ts : Array TypeId) (t : TypeId) (x y : Nat) (w : World) : (Builtin.max_ ts t #[.int .i64 (x : Int), .int .i64 (y : Int)]).run P w = .ok (.int .i64 ((max x y : Nat) : Int)) w := by
  rw [← max_int]
  simp [Builtin.max_, Builtin.max2]
attribute [local go_sem ↓] run_max_nat
end Go.Proofs.Ytbdlfaclakppgaa
/-
Norms: the greatest of what is handed in; numbers without signs; what is handed in. Conditions: as each says.
-/
set_option linter.unusedVariables false
set_option linter.unusedSimpArgs false
set_option linter.unnecessarySimpa false
namespace Go.Proofs.Ytbdlfaclakppgaa
open Go.RowKit
attribute [local go_sem ↓] Go.wp_at_zero Go.wp_at_succ


set_option maxHeartbeats 2000000 in
theorem nrgreatest_bad (A : Option Addr) (n c : Nat) (off r k ld : Int) (N : Int) (F : Value) (w : World) (hn : n < 9223372036854775808) (ho : I64 off) (hr : I64 r) (hk : I64 k) (hi : I64 ld) (hgd : matB n off r k ld = false) :
    Calls Try.prog 22 #[mat A n c off r k ld, .int .i64 N, F] w fun e w' => e = .returned (.tuple #[.float .f64 0, .int .i64 1]) ∧ Below w.heap.size w w' := by
  have HG := Lib.hid (fun W => good_any A n c off r k ld W hn ho hr hk hi)
  rw [hgd] at HG
  clear hn ho hr hk hi hgd
  unfold mat at *
  go_enter Try.func22, Try.ntmps22
  have HB0 := Lib.hid ((Below.refl w.heap.size w).alloc (Nat.le_refl _) (.cells #[.slice A n c, .int .i64 off, .int .i64 r, .int .i64 k, .int .i64 ld] 24))
  go_wp2_with fail
  refine (HG.out _).mono ?_
  rintro e w1 ⟨rfl, hb⟩
  have HB1 := Lib.hid (below_nx HB0.out hb)
  clear hb
  go_wp2_with fail
  go_ret2
  exact ⟨rfl, HB1.out⟩
set_option maxHeartbeats 2000000 in
theorem nrgreatest_none (A : Option Addr) (n c : Nat) (o R C L : Nat) (N : Int) (F : Value) (w : World) (hn : n < 9223372036854775808) (ho : I64 o) (hr : I64 R) (hk : I64 C) (hi : I64 L) (hgd : matB n o R C L = true) (h0 : R = 0 ∨ C = 0) :
    Calls Try.prog 22 #[mat A n c o R C L, .int .i64 N, F] w fun e w' => e = .returned (.tuple #[.float .f64 0, .int .i64 0]) ∧ Below w.heap.size w w' := by
  have HG := Lib.hid (fun W => good_any A n c o R C L W hn ho hr hk hi)
  rw [hgd] at HG
  obtain ⟨b1, hb1⟩ : ∃ b, ((R : Int) == 0) = b := ⟨_, rfl⟩
  obtain ⟨b2, hb2⟩ : ∃ b, ((C : Int) == 0) = b := ⟨_, rfl⟩
  have hbb : b1 = true ∨ (b1 = false ∧ b2 = true) := by
    rw [← hb1, ← hb2]
    simp
    omega
  clear hn ho hr hk hi hgd h0
  unfold mat at *
  rcases hbb with rfl | ⟨rfl, rfl⟩
  · go_enter Try.func22, Try.ntmps22
    have HZ0 := Lib.hid (Blk.new w 24 #[.slice A n c, .int .i64 o, .int .i64 R, .int .i64 C, .int .i64 L])
    have HB0 := Lib.hid ((Below.refl w.heap.size w).alloc (Nat.le_refl _) (.cells #[.slice A n c, .int .i64 o, .int .i64 R, .int .i64 C, .int .i64 L] 24))
    go_wp2_with fail
    refine (HG.out _).mono ?_
    rintro e w1 ⟨rfl, hb⟩
    have HB1 := Lib.hid (below_nx HB0.out hb)
    have HZ1 := Lib.hid (HZ0.out.nxt hb)
    clear hb
    obtain ⟨c0, c1, c2, c3, c4⟩ := cells5 HZ1.out
    go_wp2_with fail
    go_ret2
    exact ⟨rfl, HB1.out⟩
  · go_enter Try.func22, Try.ntmps22
    have HZ0 := Lib.hid (Blk.new w 24 #[.slice A n c, .int .i64 o, .int .i64 R, .int .i64 C, .int .i64 L])
    have HB0 := Lib.hid ((Below.refl w.heap.size w).alloc (Nat.le_refl _) (.cells #[.slice A n c, .int .i64 o, .int .i64 R, .int .i64 C, .int .i64 L] 24))
    go_wp2_with fail
    refine (HG.out _).mono ?_
    rintro e w1 ⟨rfl, hb⟩
    have HB1 := Lib.hid (below_nx HB0.out hb)
    have HZ1 := Lib.hid (HZ0.out.nxt hb)
    clear hb
    obtain ⟨c0, c1, c2, c3, c4⟩ := cells5 HZ1.out
    go_wp2_with fail
    go_ret2
    exact ⟨rfl, HB1.out⟩

set_option maxRecDepth 100000 in
set_option maxHeartbeats 2000000 in
/-- What is handed in comes to the numbers of V: the greatest of them is told. -/
theorem nrgreatest_ok (F : FuncId) (caps : Array Value) (A : Option Addr) (n c : Nat) (o R C L N : Nat) (V : List Nat) (w : World)
    (hF : ∀ args W, (callFunc F args).run Try.prog W = .ok (.enter F args) W) (hn : n < 9223372036854775808) (ho : I64 o) (hr : I64 R) (hk : I64 C) (hi : I64 L) (hgd : matB n o R C L = true) (hR0 : R ≠ 0) (hC0 : C ≠ 0) (hN : N < 1048576) (hV : Wds V)
    (hC : ∀ W k, k < N → Below w.heap.size w W → Calls Try.prog F (#[.int .i64 (k : Int)] ++ caps) W fun e w' => ∃ r, e = .returned (.float .f64 r) ∧ Is r (V.getD k 0) ∧ Below W.heap.size W w') :
    Calls Try.prog 22 #[mat A n c o R C L, .int .i64 (N : Int), .func (.func F) #[] caps] w fun e w' => ∃ r, e = .returned (.tuple #[.float .f64 r, .int .i64 0]) ∧ Is r (gF V N) ∧ Below w.heap.size w w' := by
  have HG := Lib.hid (fun W => good_any A n c o R C L W hn ho hr hk hi)
  rw [hgd] at HG
  have e1 : ((R : Int) == 0) = false := by simp; omega
  have e2 : ((C : Int) == 0) = false := by simp; omega
  have HCa := Lib.hid hC
  have HV := Lib.hid hV
  have HGt := Lib.hid (fun (g x y : Nat) (W : World) (hx : x < 18446744073709551616) (hy : y < 18446744073709551616) (hA : Row W (some ⟨g, 0, none⟩) (f64s [x, y])) => great5_any (some ⟨g, 0, none⟩) 2 2 [x, y] W hA (by
    intro b hb
    rcases List.mem_cons.1 hb with rfl | hb
    · exact hx
    · rcases List.mem_cons.1 hb with rfl | hb
      · exact hy
      · cases hb) rfl (by omega))
  clear hn ho hr hk hi hgd hR0 hC0 hC hV
  unfold mat at *
  go_enter Try.func22, Try.ntmps22
  have HZ0 := Lib.hid (Blk.new w 24 #[.slice A n c, .int .i64 o, .int .i64 R, .int .i64 C, .int .i64 L])
  have HB0 := Lib.hid ((Below.refl w.heap.size w).alloc (Nat.le_refl _) (.cells #[.slice A n c, .int .i64 o, .int .i64 R, .int .i64 C, .int .i64 L] 24))
  go_wp2_with fail
  refine (HG.out _).mono ?_
  rintro e w1 ⟨rfl, hb⟩
  have HB1 := Lib.hid (below_nx HB0.out hb)
  have HZ1 := Lib.hid (HZ0.out.nxt hb)
  clear hb
  obtain ⟨c0, c1, c2, c3, c4⟩ := cells5 HZ1.out
  go_wp2_with fail
  clear c0 c1 c2 c3 c4
  go_loopw [8, 24] (fun s a wr => ∃ q r : Nat, q ≤ N ∧ s = .float .f64 r ∧ a = .int .i64 q ∧ Is r (gF V q) ∧ Below w.heap.size w wr) (fun _ a _ => N - (intOf a).toNat)
  case atStart => exact ⟨0, 0, Nat.zero_le _, rfl, rfl, is_zero, HB1.out⟩
  case round =>
    obtain ⟨q, r, hq, rfl, rfl, his, hbl⟩ := hrel
    have HIs := Lib.hid his
    have HBl := Lib.hid hbl
    clear his hbl
    by_cases hlt : q < N
    · have hqc : (q : Int) < (N : Int) := by omega
      have hq1 : q + 1 ≤ 1048576 := by omega
      go_wp2_with fail
      refine (HCa.out wr q hlt HBl.out).mono ?_
      rintro e w2 ⟨x, rfl, hx, hb⟩
      have HX := Lib.hid hx
      have HB2 := Lib.hid (below_al (below_nx HBl.out hb) (o := .cells (f64s [r, x]).toArray 27))
      have HR := Lib.hid (row_of_blk (Blk.new w2 27 (f64s [r, x]).toArray))
      clear hx hb
      go_wp2_with fail
      refine (HGt.out _ r x _ HIs.out.lt HX.out.lt HR.out).mono ?_
      rintro e w3 ⟨s, rfl, hs, hb⟩
      have HS := Lib.hid (gF_next HV.out HIs.out HX.out hs)
      have HB3 := Lib.hid (below_nx HB2.out hb)
      clear hs hb
      go_wp2_with fail
      go_roundw
      case rel => exact ⟨q + 1, s, by omega, rfl, by go_num, HS.out, HB3.out⟩
      case measure => simp [intOf]; omega
    · obtain rfl : q = N := by omega
      have hqc : ¬ (q : Int) < (q : Int) := by omega
      go_wp2_with fail
      go_ret2
      exact ⟨_, rfl, HIs.out, HBl.out⟩

theorem abs_wds (l : List Nat) : Wds (l.map absW) := by
  intro b hb
  obtain ⟨x, _, rfl⟩ := List.mem_map.1 hb
  have := absW_lt x
  omega
theorem abs_getD (l : List Nat) (k : Nat) : (l.map absW).getD k 0 = absW (l.getD k 0) := by
  by_cases h : k < l.length
  · simp [List.getD, h]
  · simp [List.getD, h]; rfl
theorem sum_abs (l : List Nat) : ∀ k, sumF (l.map absW) k = asumF l k
  | 0 => rfl
  | k + 1 => by rw [sumF, asumF, sum_abs l k, abs_getD]

set_option maxRecDepth 100000 in
set_option maxHeartbeats 2000000 in
theorem nrvector_any (A : Option Addr) (n c : Nat) (l : List Nat) (w : World) (hA : Row w A (f64s l)) (hW : Wds l) (hl : l.length = n) (hn : n < 1048576) :
    Calls Try.prog 17 #[.slice A n c] w fun e w' => ∃ r s, e = .returned (.tuple #[.float .f64 r, .float .f64 s]) ∧ Is r (asumF l n) ∧ Is s (gF (l.map absW) n) ∧ Below w.heap.size w w' := by
  have hm0 := fun W => frun_make n (by omega) W
  have HA := Lib.hid hA
  have HW := Lib.hid hW
  have Hl := Lib.hid hl
  have HDn := Lib.hid (fun (m : List Nat) (hm : m.length = n) (h : ∀ j, j < n → m.getD j 0 = absW (l.getD j 0)) => show m = l.map absW from ext_getD (by rw [hm, List.length_map, hl]) (fun i hi => by rw [abs_getD, h i (by omega)]))
  have HSu := Lib.hid (fun (g : Nat) (W : World) (h : Row W (some ⟨g, 0, none⟩) (f64s (l.map absW))) => sumsum_any (some ⟨g, 0, none⟩) n n (l.map absW) W h (abs_wds l) (by rw [List.length_map, hl]) hn)
  have HGt := Lib.hid (fun (g : Nat) (W : World) (h : Row W (some ⟨g, 0, none⟩) (f64s (l.map absW))) => great5_any (some ⟨g, 0, none⟩) n n (l.map absW) W h (abs_wds l) (by rw [List.length_map, hl]) hn)
  have hse := sum_abs l n
  rw [hse] at HSu
  clear hse hA hW hl
  go_enter Try.func17, Try.ntmps17
  have HB0 := Lib.hid ((Below.refl w.heap.size w).alloc (Nat.le_refl _) (.cells (f64s (List.replicate n 0)).toArray 27))
  have HG := Lib.hid (own_blk (Blk.new w 27 (f64s (List.replicate n 0)).toArray))
  go_wp2_with fail
  go_loopw [12] (fun a wr => ∃ (q : Nat) (m : List Nat), q ≤ n ∧ a = .int .i64 q ∧ Hid (Own wr w.heap.size m ∧ m.length = n ∧ (∀ j, j < q → m.getD j 0 = absW (l.getD j 0)) ∧ Below w.heap.size w wr)) (fun a _ => n - (intOf a).toNat)
  case atStart => exact ⟨0, _, Nat.zero_le _, rfl, Lib.hid ⟨HG.out, by simp, fun j hj => by omega, HB0.out⟩⟩
  case round =>
    obtain ⟨q, m, hq, rfl, HH⟩ := hrel
    by_cases hlt : q < n
    · obtain ⟨b, o, rfl, hc0⟩ := HA.out.get0 (k := q) (by rw [Hl.out]; exact hlt)
      have hc := cell_below hc0 HH.out.2.2.2
      have HXl := Lib.hid (getD_wds HW.out q)
      have hqm : q < m.length := by rw [HH.out.2.1]; exact hlt
      have hk := HH.out.1.get q hqm
      generalize m[q] = v0 at hk
      have hfz := HH.out.1.frozen q
      have HDone := Lib.hid (show Own (wr.setCell ⟨w.heap.size, q, none⟩ (.float .f64 (absW (l.getD q 0)))) w.heap.size (m.set q (absW (l.getD q 0))) ∧ (m.set q (absW (l.getD q 0))).length = n ∧ (∀ j, j < q + 1 → (m.set q (absW (l.getD q 0))).getD j 0 = absW (l.getD j 0)) ∧ Below w.heap.size w (wr.setCell ⟨w.heap.size, q, none⟩ (.float .f64 (absW (l.getD q 0)))) from
        ⟨HH.out.1.set_ _ _ hqm, by rw [List.length_set]; exact HH.out.2.1, fun j hj => by
          by_cases e : j = q
          · subst e; rw [getD_set_self hqm]
          · rw [getD_set_ne _ (fun h => e (by first | exact h | exact h.symm))]; exact HH.out.2.2.1 j (by omega), HH.out.2.2.2.setCell (p := ⟨w.heap.size, q, none⟩) (Nat.le_refl _) _⟩)
      obtain ⟨x, hx⟩ : ∃ x, l.getD q 0 = x := ⟨_, rfl⟩
      rw [hx] at hc HXl HDone
      have hqc : (q : Int) < (n : Int) := by omega
      have hq1 : q + 1 ≤ 1048576 := by omega
      have hgl : w.heap.size < wr.heap.size := HH.out.1.lt
      clear hc0 hx hqm
      go_wp2_with fail
      refine (mabs_any x _ HXl.out).mono ?_
      rintro e w3 ⟨rfl, rfl⟩
      go_wp2_with fail
      go_roundw
      case rel => exact ⟨q + 1, _, by omega, by go_num, HDone⟩
      case measure => simp [intOf]; omega
    · obtain rfl : q = n := by omega
      have hqc : ¬ (q : Int) < (q : Int) := by omega
      have hm := HDn.out m HH.out.2.1 HH.out.2.2.1
      subst hm
      have HR := Lib.hid HH.out.1.row
      have HBr := Lib.hid HH.out.2.2.2
      go_wp2_with fail
      refine (HSu.out _ _ HR.out).mono ?_
      rintro e w4 ⟨r, rfl, hr, hb⟩
      have HRs := Lib.hid hr
      have HB4 := Lib.hid (below_nx HBr.out hb)
      have HR4 := Lib.hid (HR.out.below hb)
      clear hr hb
      go_wp2_with fail
      refine (HGt.out _ _ HR4.out).mono ?_
      rintro e w5 ⟨s, rfl, hs, hb⟩
      have HS := Lib.hid hs
      have HB5 := Lib.hid (below_nx HB4.out hb)
      clear hs hb
      go_wp2_with fail
      go_ret2
      exact ⟨_, _, rfl, HRs.out, HS.out, HB5.out⟩

theorem nrone_enters : Enters Try.prog 23 := enters_of Try.func23 (by kernel_rfl) rfl
theorem nrinf_enters : Enters Try.prog 26 := enters_of Try.func26 (by kernel_rfl) rfl
theorem nrmax_enters : Enters Try.prog 28 := enters_of Try.func28 (by kernel_rfl) rfl

set_option maxHeartbeats 2000000 in
theorem nrone_one (p : Nat) (A : Option Addr) (n c : Nat) (l : List Nat) (o R C L j : Nat) (w : World) (hp : Blk w p 24 #[.slice A n c, .int .i64 o, .int .i64 R, .int .i64 C, .int .i64 L]) (hA : Row w A (f64s l)) (hW : Wds l) (hl : l.length = n) (hn : n < 1048576) (hoI : I64 o) (hLI : I64 L) (hR : R < 1048576) (hC : C < 1048576) (hR0 : R ≠ 0) (hC0 : C ≠ 0) (hL1 : 1 ≤ L) (hRL : R ≤ L) (hmr : o + (C - 1) * L + (R - 1) < n) (hj : j < C) :
    Calls Try.prog 23 #[.int .i64 (j : Int), .pointer (some ⟨p, 0, none⟩)] w fun e w' => ∃ r, e = .returned (.float .f64 r) ∧ Is r (asumF (lst l (o + j * L) 1 R) R) ∧ Below w.heap.size w w' := by
  have hOn : (o + j * L) + (R - 1) * 1 < n := by
    have h1 : j * L ≤ (C - 1) * L := Nat.mul_le_mul_right _ (by omega)
    omega
  have HCo := Lib.hid (fun W => ncol_some A n c o R C L j W (by omega) hoI (by unfold I64; omega) (by unfold I64; omega) hLI (by unfold I64; omega) (mat_right hL1 hRL (.inr (.inr hmr))) (by omega))
  have hof : ncolOff (o : Int) (R : Int) (L : Int) (j : Int) = ((o + j * L : Nat) : Int) := by unfold ncolOff; rw [if_neg (by omega)]; simp
  rw [hof] at HCo
  clear hof
  have HAs := Lib.hid (fun W (hb : Below w.heap.size w W) => asum_ok A n c l ((o + j * L)) R 1 W (hA.below hb) hW hl hn (.inr hOn) (by omega) (vec_right (by omega) (.inr hOn)) (by unfold I64; omega) (by first | exact hLI | (unfold I64; omega)))
  obtain ⟨P, hP⟩ : ∃ P, (o + j * L) = P := ⟨_, rfl⟩
  rw [hP] at HCo HAs
  have HZ := Lib.hid hp
  clear hp hA hW hl hn hoI hLI hR hC hR0 hC0 hL1 hRL hmr hj hOn
  unfold mat vec at *
  obtain ⟨c0, c1, c2, c3, c4⟩ := cells5 HZ.out
  go_enter Try.func23, Try.ntmps23
  go_wp2_with fail
  refine (HCo.out _).mono ?_
  rintro e w1 ⟨rfl, hb⟩
  have HB1 := Lib.hid hb
  clear hb c0 c1 c2 c3 c4
  go_wp2_with fail
  refine (HAs.out _ HB1.out).mono ?_
  rintro e w2 ⟨r, rfl, hr, hb⟩
  have HR := Lib.hid (And.intro hr (below_nx HB1.out hb))
  clear hr hb
  go_wp2_with fail
  go_ret
  exact ⟨_, rfl, by rw [hP]; exact HR.out.1, HR.out.2⟩

set_option maxHeartbeats 2000000 in
theorem nrinf_one (p : Nat) (A : Option Addr) (n c : Nat) (l : List Nat) (o R C L j : Nat) (w : World) (hp : Blk w p 24 #[.slice A n c, .int .i64 o, .int .i64 R, .int .i64 C, .int .i64 L]) (hA : Row w A (f64s l)) (hW : Wds l) (hl : l.length = n) (hn : n < 1048576) (hoI : I64 o) (hLI : I64 L) (hR : R < 1048576) (hC : C < 1048576) (hR0 : R ≠ 0) (hC0 : C ≠ 0) (hL1 : 1 ≤ L) (hRL : R ≤ L) (hmr : o + (C - 1) * L + (R - 1) < n) (hj : j < R) :
    Calls Try.prog 26 #[.int .i64 (j : Int), .pointer (some ⟨p, 0, none⟩)] w fun e w' => ∃ r, e = .returned (.float .f64 r) ∧ Is r (asumF (lst l (o + j) L C) C) ∧ Below w.heap.size w w' := by
  have hOn : (o + j) + (C - 1) * L < n := by
    generalize (C - 1) * L = z at *
    omega
  have HCo := Lib.hid (fun W => vrow_some A n c o R C L j W (by omega) hoI (by unfold I64; omega) (by unfold I64; omega) hLI (by unfold I64; omega) (mat_right hL1 hRL (.inr (.inr hmr))) (by omega))
  have hof : rowOff (o : Int) (C : Int) (j : Int) = ((o + j : Nat) : Int) := by unfold rowOff; rw [if_neg (by omega)]; simp
  rw [hof] at HCo
  clear hof
  have HAs := Lib.hid (fun W (hb : Below w.heap.size w W) => asum_ok A n c l ((o + j)) C L W (hA.below hb) hW hl hn (.inr hOn) (by omega) (vec_right (by omega) (.inr hOn)) (by unfold I64; omega) (by first | exact hLI | (unfold I64; omega)))
  obtain ⟨P, hP⟩ : ∃ P, (o + j) = P := ⟨_, rfl⟩
  rw [hP] at HCo HAs
  have HZ := Lib.hid hp
  clear hp hA hW hl hn hoI hLI hR hC hR0 hC0 hL1 hRL hmr hj hOn
  unfold mat vec at *
  obtain ⟨c0, c1, c2, c3, c4⟩ := cells5 HZ.out
  go_enter Try.func26, Try.ntmps26
  go_wp2_with fail
  refine (HCo.out _).mono ?_
  rintro e w1 ⟨rfl, hb⟩
  have HB1 := Lib.hid hb
  clear hb c0 c1 c2 c3 c4
  go_wp2_with fail
  refine (HAs.out _ HB1.out).mono ?_
  rintro e w2 ⟨r, rfl, hr, hb⟩
  have HR := Lib.hid (And.intro hr (below_nx HB1.out hb))
  clear hr hb
  go_wp2_with fail
  go_ret
  exact ⟨_, rfl, by rw [hP]; exact HR.out.1, HR.out.2⟩

set_option maxHeartbeats 2000000 in
theorem nrmax_one (p : Nat) (A : Option Addr) (n c : Nat) (l : List Nat) (o R C L j : Nat) (w : World) (hp : Blk w p 24 #[.slice A n c, .int .i64 o, .int .i64 R, .int .i64 C, .int .i64 L]) (hA : Row w A (f64s l)) (hW : Wds l) (hl : l.length = n) (hnc : n ≤ c) (hn : n < 1048576) (hoI : I64 o) (hLI : I64 L) (hR : R < 1048576) (hC : C < 1048576) (hR0 : R ≠ 0) (hC0 : C ≠ 0) (hL1 : 1 ≤ L) (hRL : R ≤ L) (hmr : o + (C - 1) * L + (R - 1) < n) (hj : j < R) :
    Calls Try.prog 28 #[.int .i64 (j : Int), .pointer (some ⟨p, 0, none⟩)] w fun e w' => ∃ r, e = .returned (.float .f64 r) ∧ Is r (gF ((colsL l (o + j) 1 L C).map absW) C) ∧ Below w.heap.size w w' := by
  have hon : o + j < n := by
    generalize (C - 1) * L = z at *
    omega
  have HPt := Lib.hid (fun W => part_some A n c o R C L j 0 1 C W (by omega) hoI (by unfold I64; omega) (by unfold I64; omega) hLI (by unfold I64; omega) (by unfold I64; omega) (by unfold I64; omega) (by unfold I64; omega) (by
    unfold partB
    rw [mat_right hL1 hRL (.inr (.inr hmr))]
    have e1 : fitsB (j : Int) 1 (R : Int) = true := decide_eq_true (by omega)
    have e2 : fitsB 0 (C : Int) (C : Int) = true := decide_eq_true (by omega)
    rw [e1, e2]; rfl))
  have hof : partOff (o : Int) (L : Int) (j : Int) 0 1 (C : Int) = ((o + j : Nat) : Int) := by unfold partOff; rw [if_neg (by omega)]; simp
  rw [hof] at HPt
  have HNu := Lib.hid (fun W (hb : Below w.heap.size w W) => show Calls Try.prog 29 #[mat A n c ((o + j : Nat) : Int) 1 C L] W fun e w' => ∃ B d, e = .returned (.slice B C d) ∧ Row w' B (f64s (colsL l (o + j) 1 L C)) ∧ Below W.heap.size W w' from by
    have := numbers_any A n c l (o + j) 1 C L C W (hA.below hb) hl hnc hn (by unfold I64 at hLI; omega) (by omega) hL1 (by omega) (.inr (.inr (by
      generalize (C - 1) * L = z at *
      omega)))
    refine this.mono ?_
    rintro e w' ⟨B, d, h1, h2, _, h3⟩
    exact ⟨B, d, h1, h2, h3⟩)
  have HVe := Lib.hid (fun (B : Option Addr) (d : Nat) W (h : Row W B (f64s (colsL l (o + j) 1 L C))) => nrvector_any B C d (colsL l (o + j) 1 L C) W h (colsL_wds hW _ _ _ _) (by rw [colsL_length]; omega) hC)
  obtain ⟨P, hP⟩ : ∃ P, o + j = P := ⟨_, rfl⟩
  rw [hP] at HPt HNu HVe
  have HZ := Lib.hid hp
  clear hp hA hW hl hnc hn hoI hLI hR hC hR0 hC0 hL1 hRL hmr hj hon hof
  unfold mat at *
  obtain ⟨c0, c1, c2, c3, c4⟩ := cells5 HZ.out
  go_enter Try.func28, Try.ntmps28
  go_wp2_with fail
  refine (HPt.out _).mono ?_
  rintro e w1 ⟨rfl, hb⟩
  have HB1 := Lib.hid hb
  clear hb c0 c1 c2 c3 c4
  go_wp2_with fail
  refine (HNu.out _ HB1.out).mono ?_
  rintro e w2 ⟨B, d, rfl, hR, hb⟩
  have HRw := Lib.hid hR
  have HB2 := Lib.hid (below_nx HB1.out hb)
  clear hR hb
  go_wp2_with fail
  refine (HVe.out B d _ HRw.out).mono ?_
  rintro e w3 ⟨r, s, rfl, _, hs, hb⟩
  have HR := Lib.hid (And.intro hs (below_nx HB2.out hb))
  clear hs hb
  go_wp2_with fail
  go_ret
  exact ⟨_, rfl, by rw [hP]; exact HR.out.1, HR.out.2⟩

end Go.Proofs.Ytbdlfaclakppgaa
