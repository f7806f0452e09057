/-
The document's Rows of a table. Conditions: the table has at most 2^40 numbers.
-/
import Derived.Test.YtbdlfaclakppgaaMvY
import Derived.Test.YtbdlfaclakppgaaMvZ
import Derived.Test.YtbdlfaclakppgaaMvN
import Derived.OwnWalk
import Derived.Test.YtbdlfaclakppgaaInv
import Derived.Laws.CopyRow
import Derived.Laws.IdiomCopy
import Derived.Test.YtbdlfaclakppgaaNrA
import Derived.Test.YtbdlfaclakppgaaNrR
import Derived.Test.YtbdlfaclakppgaaSmC
import Derived.Test.YtbdlfaclakppgaaSmK
import Derived.Shelf.Abstract
import Derived.Test.YtbdlfaclakppgaaMvO
import Derived.Test.YtbdlfaclakppgaaSmD
import Derived.Test.YtbdlfaclakppgaaVwF
import Derived.Test.YtbdlfaclakppgaaVwD
import Derived.Test.YtbdlfaclakppgaaVwC
import Derived.Test.YtbdlfaclakppgaaMvI
set_option linter.unusedVariables false
namespace Go.Proofs.Ytbdlfaclakppgaa
open Go.RowKit
attribute [local go_sem ↓] Go.wp_at_zero Go.wp_at_succ

theorem tab_inj {C a b a' b' : Nat} (hb : b < C) (hb' : b' < C) (h : a * C + b = a' * C + b') : a = a' ∧ b = b' := by
  have h1 : (a * C + b) % C = b := by rw [Nat.mul_add_mod_self_right, Nat.mod_eq_of_lt hb]
  have h2 : (a' * C + b') % C = b' := by rw [Nat.mul_add_mod_self_right, Nat.mod_eq_of_lt hb']
  have e : b = b' := by rw [← h1, h, h2]
  subst e
  have hm : a * C = a' * C := by omega
  exact ⟨Nat.eq_of_mul_eq_mul_right (by omega) hm, rfl⟩
/-- The first q columns have changed rows i and k. -/
def Half (T : List Nat) (i k R C q : Nat) (T' : List Nat) : Prop := T'.length = T.length ∧ ∀ a, a < R → ∀ b, b < C → T'.getD (a * C + b) 0 = if b < q then T.getD (sw i k a * C + b) 0 else T.getD (a * C + b) 0
theorem Half.zero (T : List Nat) (i k R C : Nat) : Half T i k R C 0 T := ⟨rfl, fun a _ b _ => by simp⟩
theorem Half.step {T T' : List Nat} {i k R C q : Nat} (h : Half T i k R C q T') (hi : i < R) (hk : k < R) (hq : q < C) (hT : T.length = R * C) :
    Half T i k R C (q + 1) ((T'.set (i * C + q) (T'.getD (k * C + q) 0)).set (k * C + q) (T'.getD (i * C + q) 0)) := by
  refine ⟨by rw [List.length_set, List.length_set]; exact h.1, fun a ha b hb => ?_⟩
  have hli := tab_lt hi hq
  have hlk := tab_lt hk hq
  have hx := h.2 i hi q hq
  have hy := h.2 k hk q hq
  rw [if_neg (by omega)] at hx hy
  have hl := h.1
  by_cases e : b = q
  · subst e
    rw [if_pos (by omega)]
    by_cases e1 : a = k
    · subst e1
      rw [getD_set_self (by rw [List.length_set]; omega), hx]
      have : sw i a a = i := by
        unfold sw
        by_cases h2 : a = i
        · rw [if_pos h2]; exact h2
        · rw [if_neg h2, if_pos rfl]
      rw [this]
    · rw [getD_set_ne _ (fun e2 => e1 (tab_inj hq hq e2).1.symm)]
      by_cases e2 : a = i
      · subst e2
        rw [getD_set_self (by omega), hy]
        have : sw a k a = k := by unfold sw; rw [if_pos rfl]
        rw [this]
      · rw [getD_set_ne _ (fun e3 => e2 (tab_inj hq hq e3).1.symm), h.2 a ha b hb, if_neg (by omega)]
        have : sw i k a = a := by unfold sw; rw [if_neg e2, if_neg e1]
        rw [this]
  · rw [getD_set_ne _ (fun e2 => e (tab_inj hq hb e2).2.symm), getD_set_ne _ (fun e2 => e (tab_inj hq hb e2).2.symm), h.2 a ha b hb]
    by_cases h2 : b < q
    · rw [if_pos h2, if_pos (by omega)]
    · rw [if_neg h2, if_neg (by omega)]

theorem heldQ3 {W w' : World} {b0 o0 b1 o1 b2 o2 : Nat} {v0 v1 v2 : Value} {R : World → Prop} (h : W.cell? ⟨b0, o0, none⟩ = some v0 ∧ W.cell? ⟨b1, o1, none⟩ = some v1 ∧ W.cell? ⟨b2, o2, none⟩ = some v2 ∧ R W) (hb : Below W.heap.size W w') (hR : R W → R w') :
    w'.cell? ⟨b0, o0, none⟩ = some v0 ∧ w'.cell? ⟨b1, o1, none⟩ = some v1 ∧ w'.cell? ⟨b2, o2, none⟩ = some v2 ∧ R w' :=
  ⟨cell_below h.1 hb, cell_below h.2.1 hb, cell_below h.2.2.1 hb, hR h.2.2.2⟩
theorem heldS3 {W : World} {b0 o0 b1 o1 b2 o2 g j : Nat} {v0 v1 v2 : Value} {R : World → Prop} (u : Value) (h : W.cell? ⟨b0, o0, none⟩ = some v0 ∧ W.cell? ⟨b1, o1, none⟩ = some v1 ∧ W.cell? ⟨b2, o2, none⟩ = some v2 ∧ R W) (hR : R W → R (W.setCell ⟨g, j, none⟩ u)) (n0 : ¬ (b0 = g ∧ o0 = j)) (n1 : ¬ (b1 = g ∧ o1 = j)) (n2 : ¬ (b2 = g ∧ o2 = j)) :
    (W.setCell ⟨g, j, none⟩ u).cell? ⟨b0, o0, none⟩ = some v0 ∧ (W.setCell ⟨g, j, none⟩ u).cell? ⟨b1, o1, none⟩ = some v1 ∧ (W.setCell ⟨g, j, none⟩ u).cell? ⟨b2, o2, none⟩ = some v2 ∧ R (W.setCell ⟨g, j, none⟩ u) :=
  ⟨(cell_set2 n0 u).trans h.1, (cell_set2 n1 u).trans h.2.1, (cell_set2 n2 u).trans h.2.2.1, hR h.2.2.2⟩
end Go.Proofs.Ytbdlfaclakppgaa
/-
The document's Take of a table. Conditions: the table has at most 2^20 numbers.
-/
set_option linter.unusedVariables false
namespace Go.Proofs.Ytbdlfaclakppgaa
open Go.RowKit
attribute [local go_sem ↓] Go.wp_at_zero Go.wp_at_succ

/-- The table's rows stand as the first q changes of the order have it. -/
def Prm (T : List Nat) (zs : List Int) (R C q : Nat) (T' : List Nat) : Prop := T'.length = T.length ∧ ∀ a, a < R → ∀ b, b < C → T'.getD (a * C + b) 0 = T.getD (prm zs q a * C + b) 0
theorem Prm.step {T T' T2 : List Nat} {zs : List Int} {R C q j : Nat} (h : Prm T zs R C q T') (h2 : Half T' q j R C C T2) (hq : q < R) (hj : j < R) (e : ∀ a, prm zs (q + 1) a = prm zs q (sw q j a)) : Prm T zs R C (q + 1) T2 :=
  ⟨h2.1.trans h.1, fun a ha b hb => by
    rw [h2.2 a ha b hb, if_pos hb, h.2 _ (sw_lt hq hj ha) b hb, e]⟩

theorem heldG4 {W w' : World} {G : List Nat} {b0 o0 b1 o1 b2 o2 b3 o3 : Nat} {v0 v1 v2 v3 : Value} {R : World → Prop} (h : W.cell? ⟨b0, o0, none⟩ = some v0 ∧ W.cell? ⟨b1, o1, none⟩ = some v1 ∧ W.cell? ⟨b2, o2, none⟩ = some v2 ∧ W.cell? ⟨b3, o3, none⟩ = some v3 ∧ R W) (hc : Chg G W w') (n0 : b0 ∉ G) (n1 : b1 ∉ G) (n2 : b2 ∉ G) (n3 : b3 ∉ G) (hR : R W → R w') :
    w'.cell? ⟨b0, o0, none⟩ = some v0 ∧ w'.cell? ⟨b1, o1, none⟩ = some v1 ∧ w'.cell? ⟨b2, o2, none⟩ = some v2 ∧ w'.cell? ⟨b3, o3, none⟩ = some v3 ∧ R w' :=
  ⟨hc.cell n0 h.1, hc.cell n1 h.2.1, hc.cell n2 h.2.2.1, hc.cell n3 h.2.2.2.1, hR h.2.2.2.2⟩
end Go.Proofs.Ytbdlfaclakppgaa
/-
The document's Into: a list with a table at a matrix' places. Conditions: the matrix is right, its list and the table have at most 2^20 numbers.
-/
set_option linter.unusedVariables false
set_option linter.unusedSimpArgs false
namespace Go.Proofs.Ytbdlfaclakppgaa
open Go.RowKit
attribute [local go_sem ↓] Go.wp_at_zero Go.wp_at_succ

/-- The list has the table T at the matrix' first places, by rows, and is else as it was. -/
def Pim (l : List Nat) (o R C L : Nat) (T : Nat → Nat → Nat) (a b : Nat) (l' : List Nat) : Prop :=
  l'.length = l.length ∧ (∀ i, i < R → ∀ j, j < C → l'.getD (o + i + j * L) 0 = if i < a ∨ (i = a ∧ j < b) then T i j else l.getD (o + i + j * L) 0) ∧ ∀ x, (∀ i, i < R → ∀ j, j < C → x ≠ o + i + j * L) → l'.getD x 0 = l.getD x 0
theorem Pim.zero (l : List Nat) (o R C L : Nat) (T : Nat → Nat → Nat) : Pim l o R C L T 0 0 l := ⟨rfl, fun i _ j _ => by rw [if_neg (by omega)], fun _ _ => rfl⟩
theorem Pim.next {l l' : List Nat} {o R C L : Nat} {T : Nat → Nat → Nat} {a : Nat} (h : Pim l o R C L T a C l') : Pim l o R C L T (a + 1) 0 l' :=
  ⟨h.1, fun i hi j hj => by
    rw [h.2.1 i hi j hj]
    by_cases e : i < a ∨ (i = a ∧ j < C)
    · rw [if_pos e, if_pos (by omega)]
    · rw [if_neg e, if_neg (by omega)], h.2.2⟩
theorem Pim.done {l l' : List Nat} {o R C L : Nat} {T : Nat → Nat → Nat} (h : Pim l o R C L T R 0 l') : Img l o R C L T l' :=
  ⟨h.1, fun i hi j hj => by rw [h.2.1 i hi j hj, if_pos (.inl hi)], h.2.2⟩
theorem Pim.step {l l' : List Nat} {o R C L : Nat} {T : Nat → Nat → Nat} {a b : Nat} (h : Pim l o R C L T a b l') (hR : R ≤ L) (ha : a < R) (hb : b < C) (hP : o + a + b * L < l.length) : Pim l o R C L T a (b + 1) (l'.set (o + a + b * L) (T a b)) := by
  refine ⟨by rw [List.length_set]; exact h.1, fun i hi j hj => ?_, fun x hx => ?_⟩
  · by_cases e : i = a ∧ j = b
    · obtain ⟨rfl, rfl⟩ := e
      rw [getD_set_self (by rw [h.1]; exact hP), if_pos (by omega)]
    · rw [getD_set_ne _ (fun e2 => e (by
        have := spots_inj (L := L) (a := a) (b := b) (a' := i) (b' := j) (by omega) (by omega) (by omega)
        exact ⟨this.1.symm, this.2.symm⟩)), h.2.1 i hi j hj]
      by_cases e1 : i < a ∨ (i = a ∧ j < b)
      · rw [if_pos e1, if_pos (by omega)]
      · rw [if_neg e1, if_neg (by omega)]
  · rw [getD_set_ne _ (fun e => hx a ha b hb e.symm), h.2.2 x hx]
/-- What Into comes to. -/
def Intod (n : Nat) (l : List Nat) (o R C L : Nat) (T : List Nat) (w : World) (e : Ending) (w' : World) : Prop := ∃ g c' l', e = .returned (.slice (some ⟨g, 0, none⟩) n c') ∧ Own w' g l' ∧ Img l o R C L (fun a b => T.getD (a * C + b) 0) l' ∧ w.heap.size ≤ g ∧ Below w.heap.size w w'
end Go.Proofs.Ytbdlfaclakppgaa
/-
Numbers of a matrix, column by column. Conditions: the matrix is right, its list has at most 2^20 numbers.
-/
set_option linter.unusedVariables false
set_option linter.unusedSimpArgs false
namespace Go.Proofs.Ytbdlfaclakppgaa
open Go.RowKit
attribute [local go_sem ↓] Go.wp_at_zero Go.wp_at_succ

/-- The numbers of the first columns, column by column. -/
def colsL (l : List Nat) (o R L : Nat) : Nat → List Nat
  | 0 => []
  | j + 1 => colsL l o R L j ++ lst l (o + j * L) 1 R
theorem colsL_length (l : List Nat) (o R L : Nat) : ∀ j, (colsL l o R L j).length = j * R
  | 0 => by simp [colsL]
  | j + 1 => by rw [colsL, List.length_append, colsL_length l o R L j, lst_length, Nat.add_mul]; omega
theorem colsL_getD (l : List Nat) (o R L : Nat) {a b : Nat} (ha : a < R) : ∀ {j : Nat}, b < j → (colsL l o R L j).getD (b * R + a) 0 = l.getD (o + a + b * L) 0
  | 0, h => by omega
  | j + 1, h => by
    have hlen := colsL_length l o R L j
    rw [colsL]
    by_cases hb : b < j
    · have h1 : b * R + a < j * R := by
        have : (b + 1) * R ≤ j * R := Nat.mul_le_mul_right _ (by omega)
        rw [Nat.add_mul] at this; omega
      rw [List.getD_eq_getElem?_getD, List.getElem?_append_left (by omega), ← List.getD_eq_getElem?_getD]
      exact colsL_getD l o R L ha hb
    · obtain rfl : b = j := by omega
      rw [List.getD_eq_getElem?_getD, List.getElem?_append_right (by omega), ← List.getD_eq_getElem?_getD, hlen, show b * R + a - b * R = a by omega, lst_getD l _ 1 ha]
      congr 1
      omega
theorem mat_size {n o R C L : Nat} (hR : R ≤ L) (hr : R = 0 ∨ C = 0 ∨ o + (C - 1) * L + (R - 1) < n) : R * C ≤ n := by
  by_cases h0 : R = 0
  · subst h0; simp
  by_cases h1 : C = 0
  · subst h1; simp
  have h2 : (C - 1) * R ≤ (C - 1) * L := Nat.mul_le_mul_left _ hR
  have h3 : R * C = (C - 1) * R + R := by
    obtain ⟨C', rfl⟩ : ∃ C', C = C' + 1 := ⟨C - 1, by omega⟩
    rw [Nat.add_sub_cancel, Nat.mul_add, Nat.mul_comm]; omega
  omega
theorem colsL_wds {l : List Nat} (h : Wds l) (o R L : Nat) : ∀ j, Wds (colsL l o R L j)
  | 0 => by intro b hb; cases hb
  | j + 1 => by
    intro b hb
    rw [colsL, List.mem_append] at hb
    rcases hb with hb | hb
    · exact colsL_wds h o R L j b hb
    · unfold lst at hb
      obtain ⟨i, _, rfl⟩ := List.mem_map.1 hb
      rcases Nat.lt_or_ge (o + j * L + i * 1) l.length with h1 | h1
      · rw [getD_of_lt h1]; exact h.at_ _ h1
      · rw [getD_of_le h1]; omega
theorem f64s_app (l m : List Nat) : f64s (l ++ m) = f64s l ++ f64s m := by simp [f64s]

theorem owns_nxt {w w' : World} {B : Nat} {e : TypeId} {s : Nat} {v : Value} {n : Nat} {xs : List Value} (h : w.ownsRow B e s v n xs) (hb : Below w.heap.size w w') : w'.ownsRow B e s v n xs := by
  refine ⟨h.1, h.2.imp id ?_⟩
  rintro ⟨g, cap, cur, h1, h2, h3, h4⟩
  have hg : g < w.heap.size := by
    rcases Nat.lt_or_ge g w.heap.size with hl | hl
    · exact hl
    · rw [Array.getElem?_eq_none hl] at h3; cases h3
  exact ⟨g, cap, cur, h1, h2, (hb.block g hg).trans h3, h4⟩

theorem own_row3 {w : World} {B : Nat} {v : Value} {n : Nat} {l : List Nat} (h : w.ownsRow B 27 1 v n (f64s l)) (hn : n = l.length) : ∃ A c, v = .slice A n c ∧ Row w A (f64s l) ∧ (∀ b o, A = some ⟨b, o, none⟩ → B ≤ b) ∧ n ≤ c := by
  by_cases hv : v = .slice none 0 0
  · subst hv
    have hl := h.1
    obtain ⟨_, ⟨_, h0⟩ | ⟨g, cap, cur, h1, _⟩⟩ := h
    · subst h0
      have : l = [] := List.length_eq_zero_iff.1 hn.symm
      subst this
      exact ⟨none, 0, rfl, .inl rfl, (fun b o e => by cases e), Nat.le_refl _⟩
    · cases h1
  · obtain ⟨g, c, rfl, hg, hc, _, ho⟩ := own_of h hv hn
    exact ⟨_, c, rfl, ho.row, (fun b o e => by injection e with e; injection e with e _; omega), hc⟩
theorem own_row2 {w : World} {B : Nat} {v : Value} {n : Nat} {l : List Nat} (h : w.ownsRow B 27 1 v n (f64s l)) (hn : n = l.length) : ∃ A c, v = .slice A n c ∧ Row w A (f64s l) ∧ ∀ b o, A = some ⟨b, o, none⟩ → B ≤ b := by
  obtain ⟨A, c, h1, h2, h3, _⟩ := own_row3 h hn
  exact ⟨A, c, h1, h2, h3⟩

/-- What Numbers comes to, with its room. -/
def Numr (N : Nat) (X : List Nat) (w : World) (e : Ending) (w' : World) : Prop := ∃ B d, e = .returned (.slice B N d) ∧ Row w' B (f64s X) ∧ (∀ b o, B = some ⟨b, o, none⟩ → w.heap.size ≤ b) ∧ N ≤ d ∧ Below w.heap.size w w'
/-- What Numbers comes to. -/
def Numd (N : Nat) (X : List Nat) (w : World) (e : Ending) (w' : World) : Prop := ∃ B d, e = .returned (.slice B N d) ∧ Row w' B (f64s X) ∧ (∀ b o, B = some ⟨b, o, none⟩ → w.heap.size ≤ b) ∧ Below w.heap.size w w'
theorem numbers_none (A : Option Addr) (n c : Nat) (o R C L : Nat) (w : World) (hn : n < 1048576) (hgd : matB n o R C L = true) (hb : o < 9223372036854775808 ∧ R < 9223372036854775808 ∧ C < 9223372036854775808 ∧ L < 9223372036854775808) (h0 : R = 0 ∨ C = 0) :
    Calls Try.prog 29 #[mat A n c o R C L] w fun e w' => e = .returned (.slice none 0 0) ∧ Below w.heap.size w w' := by
  have HG := Lib.hid (fun W => good_any A n c o R C L W (by omega) (by unfold I64; omega) (by unfold I64; omega) (by unfold I64; omega) (by unfold I64; omega))
  rw [hgd] at HG
  have HNo := Lib.hid (fun W => none_any A n c o R C L W)
  rw [show (((R : Int) == 0) || ((C : Int) == 0)) = true by simp; omega] at HNo
  clear hn hgd hb h0
  unfold mat at *
  go_enter Try.func29, Try.ntmps29
  have HZ0 := Lib.hid (Blk.new w 24 #[.slice A n c, .int .i64 o, .int .i64 R, .int .i64 C, .int .i64 L])
  have HB0 := Lib.hid ((Below.refl w.heap.size w).alloc (Nat.le_refl _) (.cells #[.slice A n c, .int .i64 o, .int .i64 R, .int .i64 C, .int .i64 L] 24))
  go_wp2_with fail
  refine (HG.out _).mono ?_
  rintro e w1 ⟨rfl, hb⟩
  have HZ1 := Lib.hid (HZ0.out.nxt hb)
  have HB1 := Lib.hid (below_nx HB0.out hb)
  clear hb
  obtain ⟨c0, c1, c2, c3, c4⟩ := cells5 HZ1.out
  go_wp2_with fail
  refine (HNo.out _).mono ?_
  rintro e w2 ⟨rfl, hb⟩
  have HB2 := Lib.hid (below_nx HB1.out hb)
  clear hb c0 c1 c2 c3 c4
  go_wp2_with fail
  go_ret
  exact ⟨rfl, HB2.out⟩

theorem nm_facts {R C N n : Nat} (hN : R * C = N) (hNn : N ≤ n) (hn : n < 1048576) (hR0 : R ≠ 0) :
    (R : Int) * (C : Int) = (N : Int) ∧ wrap64 (N : Int) = (N : Int) ∧ IntKind.i64.wrap (N : Int) = (N : Int) ∧ (∀ j, j ≤ C → j * R ≤ N) ∧ C * R = N ∧ N < 1048576 ∧ C < 1048576 := by
  have h1 : C * 1 ≤ C * R := Nat.mul_le_mul_left _ (by omega)
  have h2 : C * R = N := by rw [← hN, Nat.mul_comm]
  have h3 : (R : Int) * (C : Int) = (N : Int) := by rw [← hN, Int.natCast_mul]
  clear hN
  refine ⟨h3, ?_, ?_, fun j hj => ?_, h2, by omega, by omega⟩
  · clear h3; exact wrap_id (by unfold I64; omega)
  · clear h3; exact wrapi (by omega) (by omega)
  · rw [← h2]; exact Nat.mul_le_mul_right _ hj

theorem row_sub {w W : World} {b x P R : Nat} {l : List Nat} (hA : Row w (some ⟨b, x, none⟩) (f64s l)) (hb : Below w.heap.size w W) (hP : P + R ≤ l.length) (i : Nat) (u : Value) (h : (f64s (lst l P 1 R))[i]? = some u) : W.cell? ⟨b, x + P + i, none⟩ = some u := by
  obtain ⟨hi', rfl⟩ := f64s_get? h
  have hi2 := hi'
  rw [lst_length] at hi2
  have hPl : P + i < l.length := by omega
  rcases hA with h0 | ⟨b', x', e', hc⟩
  · have : l = [] := by simpa [f64s] using h0
    subst this; simp at hPl
  · injection e' with e'; injection e' with e1 e2
    subst e1; subst e2
    have h2 := hc (P + i) _ (f64s_get l _ hPl)
    have h3 := cell_below h2 hb
    have h4 : (lst l P 1 R)[i] = l[P + i] := by
      rw [← getD_of_lt hi', lst_getD l P 1 hi2, Nat.mul_one, getD_of_lt hPl]
    rw [h4, Nat.add_assoc]; exact h3
theorem addr_at (b o j : Nat) : (⟨b, o, none⟩ : Addr).add j = ⟨b, o + j, none⟩ := by unfold Addr.add; split <;> simp_all
theorem nm_ne {P R n c : Nat} (hP : P + R ≤ n) (hnc : n ≤ c) (hR : 1 ≤ R) : ¬ c = P := by omega
theorem nm_step {P R n c : Nat} (hP : P + R ≤ n) (hnc : n ≤ c) (hn : n < 1048576) : ∃ Q1 : Nat, P + R = Q1 ∧ (P : Int) + (R : Int) = (Q1 : Int) ∧ IntKind.i64.wrap (Q1 : Int) = (Q1 : Int) ∧ wrap64 (Q1 : Int) = (Q1 : Int) ∧ Q1 - P = R ∧ (P : Int) ≤ (Q1 : Int) ∧ (Q1 : Int) ≤ (c : Int) ∧ (0 : Int) ≤ (P : Int) :=
  ⟨P + R, rfl, by omega, wrapi (by omega) (by omega), wrap_id (by unfold I64; omega), by omega, by omega, by omega, by omega⟩
set_option maxRecDepth 100000 in
set_option maxHeartbeats 300000 in
theorem numbers_room (b x : Nat) (n c : Nat) (l : List Nat) (o R C L N : Nat) (w : World) (hA : Row w (some ⟨b, x, none⟩) (f64s l)) (hl : l.length = n) (hnc : n ≤ c) (hn : n < 1048576) (hgd : matB n o R C L = true) (hb : o < 9223372036854775808 ∧ R < 9223372036854775808 ∧ C < 9223372036854775808 ∧ L < 9223372036854775808) (hN : R * C = N) (hNn : N ≤ n) (hR0 : R ≠ 0) (hC0 : C ≠ 0) (hrr : o + (C - 1) * L + (R - 1) < n) :
    Calls Try.prog 29 #[mat (some ⟨b, x, none⟩) n c o R C L] w fun e w' => Numr N (colsL l o R L C) w e w' := by
  obtain ⟨i0, hi, hz0, hz1, hz2⟩ := fi0
  have HG := Lib.hid (fun W => good_any (some ⟨b, x, none⟩) n c o R C L W (by omega) (by unfold I64; omega) (by unfold I64; omega) (by unfold I64; omega) (by unfold I64; omega))
  rw [hgd] at HG
  have HNo := Lib.hid (fun W => none_any (some ⟨b, x, none⟩) n c o R C L W)
  rw [show (((R : Int) == 0) || ((C : Int) == 0)) = false by simp; omega] at HNo
  have HP := Lib.hid (fun j (hj : j < C) => show o + j * L + R ≤ n from by
    have h1 : j * L ≤ (C - 1) * L := Nat.mul_le_mul_right _ (by omega)
    omega)
  have HPl := Lib.hid (fun W j (hj : j < C) => place_any (some ⟨b, x, none⟩) n c o R C L 0 j ((o + j * L : Nat) : Int) W (by simp) (by unfold I64; have := HP.out j hj; omega) (by
    have := HP.out j hj
    have e : ((j : Int) * (L : Int)) = ((j * L : Nat) : Int) := by simp
    rw [e]; unfold I64; omega) (by unfold I64; have := HP.out j hj; omega))
  have HA := Lib.hid hA
  have Hl := Lib.hid hl
  obtain ⟨hN2, hwN, hwN2, hCN, hCe, hNb, hCb⟩ := nm_facts hN hNn hn hR0
  have HCN := Lib.hid hCN
  have HCe := Lib.hid hCe
  clear hCN hCe
  have hnc1 : (n : Int) ≤ (c : Int) := by omega
  have hR1 : 1 ≤ R := by omega
  clear hA hl hgd hb hN hrr hR0 hC0
  unfold mat at *
  go_enter Try.func29, Try.ntmps29
  have HZ0 := Lib.hid (Blk.new w 24 #[.slice (some ⟨b, x, none⟩) n c, .int .i64 o, .int .i64 R, .int .i64 C, .int .i64 L])
  have HB0 := Lib.hid ((Below.refl w.heap.size w).alloc (Nat.le_refl _) (.cells #[.slice (some ⟨b, x, none⟩) n c, .int .i64 o, .int .i64 R, .int .i64 C, .int .i64 L] 24))
  go_wp2_with fail
  refine (HG.out _).mono ?_
  rintro e w1 ⟨rfl, hb⟩
  have HZ1 := Lib.hid (HZ0.out.nxt hb)
  have HB1 := Lib.hid (below_nx HB0.out hb)
  clear hb
  obtain ⟨c0, c1, c2, c3, c4⟩ := cells5 HZ1.out
  go_wp2_with fail
  refine (HNo.out _).mono ?_
  rintro e w2 ⟨rfl, hb⟩
  have HZ2 := Lib.hid (HZ1.out.nxt hb)
  have HB2 := Lib.hid (below_nx HB1.out hb)
  clear hb c0 c1 c2 c3 c4
  obtain ⟨c0, c1, c2, c3, c4⟩ := cells5 HZ2.out
  have hz2l := HZ2.out.lt
  go_wp2_with (at_make; refine wpList_make_own _ rfl _ _ 22 rfl (w.heap.size + 1) 27 i0 (.float .f64 0) 1 Try.underlying22 hi hz0 hz1 .i64 .i64 (N : Int) N rfl (by simp [Act.eval, hN2, hwN2]) rfl ?m1 ?m2 ?m3 ?_)
  case m1 => rw [hz2]; omega
  case m2 => unfold maxLen; omega
  case m3 => omega
  intro w3 hown hgrow
  have HOw := Lib.hid hown
  have hO : Below w2.heap.size w2 w3 := ⟨hgrow.os, hgrow.tape, hgrow.output, hgrow.size, fun k hk => hgrow.block k hk (fun e => by cases e)⟩
  have HZ3 := Lib.hid (HZ2.out.nxt hO)
  have HB3 := Lib.hid (below_nx HB2.out hO)
  have hsz3 := hO.size
  clear hown hgrow hO c0 c1 c2 c3 c4
  obtain ⟨c0, c1, c2, c3, c4⟩ := cells5 HZ3.out
  generalize hz : w.heap.size = z at *
  have Hz := Lib.hid hz
  clear hz
  go_wp2_with fail
  clear c0 c1 c2 c3 c4 hN2 hwN hwN2
  go_loopw [3, 21] (fun out a wr => ∃ q : Nat, q ≤ C ∧ a = .int .i64 q ∧ wr.ownsRow (z + 1) 27 1 out (q * R) (f64s (colsL l o R L q)) ∧ Below z w wr ∧ Blk wr z 24 #[.slice (some ⟨b, x, none⟩) n c, .int .i64 o, .int .i64 R, .int .i64 C, .int .i64 L] ∧ z + 1 ≤ wr.heap.size) (fun _ a _ => C - (intOf a).toNat)
  case atStart => exact ⟨0, Nat.zero_le _, rfl, by rw [Nat.zero_mul]; exact HOw.out, HB3.out, HZ3.out, by omega⟩
  case round =>
    obtain ⟨q, hq, rfl, hown, hbl, hbz, hsz⟩ := hrel
    have HOw1 := Lib.hid hown
    have HBl := Lib.hid hbl
    have HBz := Lib.hid hbz
    have HSz := Lib.hid hsz
    clear hown hbl hbz hsz
    obtain ⟨c0, c1, c2, c3, c4⟩ := cells5 HBz.out
    by_cases hlt : q < C
    · have hP := HP.out q hlt
      have HPq := Lib.hid (fun W => HPl.out W q hlt)
      obtain ⟨P, hPd⟩ : ∃ P, o + q * L = P := ⟨_, rfl⟩
      rw [hPd] at hP HPq
      have hqN : (q + 1) * R ≤ N := HCN.out (q + 1) (by omega)
      have hqe : (q + 1) * R = q * R + R := by rw [Nat.add_mul]; omega
      have hstep : f64s (colsL l o R L (q + 1)) = f64s (colsL l o R L q) ++ f64s (lst l P 1 R) := by rw [colsL, f64s_app, hPd]
      have HStep := Lib.hid hstep
      have HQe := Lib.hid hqe
      have HQN := Lib.hid (show q * R + R ≤ N by rw [← hqe]; exact hqN)
      clear hPd hstep hqe hqN
      have hqc : (q : Int) < (C : Int) := by omega
      have hq1 : q + 1 ≤ 1048576 := by omega
      obtain ⟨Q1, hQ1, hPR0, hPR, hPR2, hQR, hb1, hb2, hb3⟩ := nm_step hP hnc hn
      have hcP : ¬ c = P := nm_ne hP hnc hR1
      clear hQ1
      go_wp2_with fail
      refine (HPq.out _).mono ?_
      rintro e w4 ⟨rfl, hb⟩
      have HOw2 := Lib.hid (show w4.ownsRow (z + 1) 27 1 _ (q * R) (f64s (colsL l o R L q)) from owns_nxt HOw1.out hb)
      have HBl2 := Lib.hid (show Below z w w4 from HBl.out.trans (hb.mono (Nat.le_of_lt HBz.out.lt)))
      have HBz2 := Lib.hid (HBz.out.nxt hb)
      have HSz2 := Lib.hid (show z + 1 ≤ w4.heap.size from Nat.le_trans HSz.out hb.size)
      have HRs := Lib.hid (row_sub HA.out (show Below w.heap.size w w4 by rw [Hz.out]; exact HBl2.out) (show P + R ≤ l.length by rw [Hl.out]; exact hP))
      clear hb c0 c1 c2 c3 c4
      obtain ⟨c0, c1, c2, c3, c4⟩ := cells5 HBz2.out
      go_wp2_with (at_builtin; refine wpList_append_own _ rfl _ _ 22 rfl (z + 1) 27 i0 (.float .f64 0) 1 8 Try.underlying22 hi hz0 hz1 hz2 rfl (by decide) _ (q * R) (f64s (colsL l o R L q)) rfl HOw2.out ⟨b, x + P, none⟩ R (c - P) (f64s (lst l P 1 R)) (by simp [Act.eval, hQR, hcP]) (by simp [f64s, lst_length]) ?c1 (one_cells _) ?c3 ?c4 ?c5 ?_)
      case c1 => intro j u hu; rw [addr_at]; exact HRs.out j u hu
      case c3 => exact Nat.le_trans HQN.out (by unfold maxLen; omega)
      case c4 => exact Nat.le_trans (Nat.mul_le_mul_right 8 HQN.out) (by omega)
      case c5 => exact HSz2.out
      intro v' w' hown' hgrow _
      rw [← HStep.out, ← HQe.out] at hown'
      have HOw3 := Lib.hid hown'
      have hlt2 := fun k hk => (HOw2.out.lt k hk)
      have hz2' := HBz2.out.lt
      have HBl3 := Lib.hid (HBl2.out.grown hgrow (by omega) (fun k hk => by have := (hlt2 k hk).1; omega))
      have HBz3 := Lib.hid (show Blk w' z 24 #[.slice (some ⟨b, x, none⟩) n c, .int .i64 o, .int .i64 R, .int .i64 C, .int .i64 L] from (hgrow.block z hz2' (fun e => by have := (hlt2 z e.symm).1; omega)).trans HBz2.out)
      have HSz3 := Lib.hid (show z + 1 ≤ w'.heap.size from Nat.le_trans HSz2.out hgrow.size)
      clear hown' hgrow hlt2 hz2' c0 c1 c2 c3 c4
      go_wp2_with fail
      go_roundw
      case rel => exact ⟨q + 1, by omega, by go_num, HOw3.out, HBl3.out, HBz3.out, HSz3.out⟩
      case measure => simp [intOf]; omega
    · obtain rfl : q = C := by omega
      have hqc : ¬ (q : Int) < (q : Int) := by omega
      obtain ⟨A', c', rfl, hrow, hbb, hcc'⟩ := own_row3 HOw1.out (by rw [colsL_length])
      have HCc := Lib.hid hcc'
      have HBb := Lib.hid hbb
      have HRow := Lib.hid hrow
      have e9 := HCe.out
      clear hrow hbb hcc'
      go_wp2_with fail
      go_ret
      exact ⟨A', c', rfl, HRow.out, fun b o e => by have := HBb.out b o e; have := Hz.out; omega, by rw [← HCe.out]; exact HCc.out, by rw [Hz.out]; exact HBl.out⟩
theorem numbers_some (b x : Nat) (n c : Nat) (l : List Nat) (o R C L N : Nat) (w : World) (hA : Row w (some ⟨b, x, none⟩) (f64s l)) (hl : l.length = n) (hnc : n ≤ c) (hn : n < 1048576) (hgd : matB n o R C L = true) (hb : o < 9223372036854775808 ∧ R < 9223372036854775808 ∧ C < 9223372036854775808 ∧ L < 9223372036854775808) (hN : R * C = N) (hNn : N ≤ n) (hR0 : R ≠ 0) (hC0 : C ≠ 0) (hrr : o + (C - 1) * L + (R - 1) < n) :
    Calls Try.prog 29 #[mat (some ⟨b, x, none⟩) n c o R C L] w fun e w' => Numd N (colsL l o R L C) w e w' :=
  (numbers_room b x n c l o R C L N w hA hl hnc hn hgd hb hN hNn hR0 hC0 hrr).mono fun e w' ⟨B, d, h1, h2, h3, _, h4⟩ => ⟨B, d, h1, h2, h3, h4⟩
end Go.Proofs.Ytbdlfaclakppgaa
/-
Clone: a new matrix with a matrix' numbers. Conditions: the matrix is right, its list has at most 2^20 numbers, its sizes are at most 64.
-/
set_option linter.unusedVariables false
set_option linter.unusedSimpArgs false
set_option linter.unnecessarySimpa false
namespace Go.Proofs.Ytbdlfaclakppgaa
open Go.RowKit
attribute [local go_sem ↓] Go.wp_at_zero Go.wp_at_succ

theorem numbers_any (A : Option Addr) (n c : Nat) (l : List Nat) (o R C L N : Nat) (w : World) (hA : Row w A (f64s l)) (hl : l.length = n) (hnc : n ≤ c) (hn : n < 1048576) (hb : o < 9223372036854775808 ∧ R < 9223372036854775808 ∧ C < 9223372036854775808 ∧ L < 9223372036854775808) (hN : R * C = N) (hL : 1 ≤ L) (hR : R ≤ L) (hr : R = 0 ∨ C = 0 ∨ o + (C - 1) * L + (R - 1) < n) :
    Calls Try.prog 29 #[mat A n c o R C L] w fun e w' => Numd N (colsL l o R L C) w e w' := by
  have hgd := mat_right hL hR hr
  by_cases h0 : R = 0 ∨ C = 0
  · have hN0 : N = 0 := by rw [← hN]; rcases h0 with rfl | rfl <;> simp
    have hX : colsL l o R L C = [] := List.length_eq_zero_iff.1 (by rw [colsL_length, Nat.mul_comm, hN, hN0])
    refine (numbers_none A n c o R C L w hn hgd hb h0).mono ?_
    rintro e w' ⟨h1, h2⟩
    exact ⟨none, 0, by rw [h1, hN0], by rw [hX]; exact .inl rfl, (fun b o e => by cases e), h2⟩
  · have hrr : o + (C - 1) * L + (R - 1) < n := by omega
    cases A with
    | some a =>
      rcases hA with h | ⟨b, x, e, hc⟩
      · have : l = [] := by simpa [f64s] using h
        subst this
        simp at hl
        omega
      · obtain rfl : a = ⟨b, x, none⟩ := by simpa using e
        exact numbers_some b x n c l o R C L N w (.inr ⟨b, x, rfl, hc⟩) hl hnc hn hgd hb hN (by rw [← hN]; exact mat_size hR hr) (by omega) (by omega) hrr
    | none =>
      rcases hA with h | ⟨b, x, h, _⟩
      · have : l = [] := by simpa [f64s] using h
        subst this
        simp at hl
        omega
      · cases h
theorem numbers_roomy (A : Option Addr) (n c : Nat) (l : List Nat) (o R C L N : Nat) (w : World) (hA : Row w A (f64s l)) (hl : l.length = n) (hnc : n ≤ c) (hn : n < 1048576) (hb : o < 9223372036854775808 ∧ R < 9223372036854775808 ∧ C < 9223372036854775808 ∧ L < 9223372036854775808) (hN : R * C = N) (hL : 1 ≤ L) (hR : R ≤ L) (hr : R = 0 ∨ C = 0 ∨ o + (C - 1) * L + (R - 1) < n) :
    Calls Try.prog 29 #[mat A n c o R C L] w fun e w' => Numr N (colsL l o R L C) w e w' := by
  have hgd := mat_right hL hR hr
  by_cases h0 : R = 0 ∨ C = 0
  · have hN0 : N = 0 := by rw [← hN]; rcases h0 with rfl | rfl <;> simp
    have hX : colsL l o R L C = [] := List.length_eq_zero_iff.1 (by rw [colsL_length, Nat.mul_comm, hN, hN0])
    refine (numbers_none A n c o R C L w hn hgd hb h0).mono ?_
    rintro e w' ⟨h1, h2⟩
    exact ⟨none, 0, by rw [h1, hN0], by rw [hX]; exact .inl rfl, (fun b o e => by cases e), by omega, h2⟩
  · have hrr : o + (C - 1) * L + (R - 1) < n := by omega
    cases A with
    | some a =>
      rcases hA with h | ⟨b, x, e, hc⟩
      · have : l = [] := by simpa [f64s] using h
        subst this
        simp at hl
        omega
      · obtain rfl : a = ⟨b, x, none⟩ := by simpa using e
        exact numbers_room b x n c l o R C L N w (.inr ⟨b, x, rfl, hc⟩) hl hnc hn hgd hb hN (by rw [← hN]; exact mat_size hR hr) (by omega) (by omega) hrr
    | none =>
      rcases hA with h | ⟨b, x, h, _⟩
      · have : l = [] := by simpa [f64s] using h
        subst this
        simp at hl
        omega
      · cases h
theorem info1_f64 : (Try.prog.info? 27).map (·.size) = some 1 := by kernel_rfl
/-- What copy comes to where all goes over. -/
theorem run_copy_all (W : World) (ty : TypeId) (g N c d : Nat) (B : Option Addr) (cur : Array Value) (M : List Nat) (hg : Blk W g 27 cur) (hcur : cur.size = N) (hM : M.length = N) (hB : Row W B (f64s M)) :
    ∃ W', (Builtin.copy_ #[22, 22] ty #[.slice (some ⟨g, 0, none⟩) N c, .slice B N d]).run Try.prog W = .ok (goInt N) W' ∧ Blk W' g 27 (f64s M).toArray ∧ Only g W W' := by
  by_cases h0 : N = 0
  · subst h0
    obtain rfl : M = [] := List.length_eq_zero_iff.1 hM
    refine ⟨W, run_copy_none W _ _ _ 27 _ _ _ _ _ _ Try.underlying22 info1_f64 rfl, ?_, Only.refl _ _⟩
    have : cur = #[] := Array.eq_empty_of_size_eq_zero hcur
    subst this; exact hg
  · rcases hB with h | ⟨b, o, rfl, hc⟩
    · have : M = [] := by simpa [f64s] using h
      subst this; simp at hM; omega
    · have hlen : (f64s M).length = N := by simp [f64s, hM]
      have h1 := run_copy_row (P := Try.prog) W 22 22 ty 27 g 0 N c ⟨b, o, none⟩ N d cur 27 (f64s M) Try.underlying22 info1_f64 hg (by rw [hlen]; exact (Nat.min_self N).symm) (fun j v h => by
        have := hc j v h
        rw [addr_at]; exact this) (by rw [hlen]; omega) (one_cells M)
      have e : (List.take 0 cur.toList ++ f64s M ++ List.drop (0 + (f64s M).length) cur.toList).toArray = (f64s M).toArray := by
        rw [hlen, List.drop_eq_nil_of_le (by simp; omega)]; simp
      rw [e, hlen] at h1
      refine ⟨_, h1, setRow_heap W g cur _ _ _ hg, ⟨rfl, rfl, rfl, by simp, fun k hk hne => setRow_other W g k _ (fun e => hne (by rw [e]))⟩⟩
/-- Before and behind the copying. -/
def CopyB (W0 : World) (g : Nat) (X : List Nat) (d4 : Bool) (W : World) : Prop := (d4 = false → Below W0.heap.size W0 W) ∧ (d4 = true → Blk W g 27 (f64s X).toArray ∧ Only g W0 W)
theorem max_int (R C : Nat) : (if (R : Int) < (C : Int) then (C : Int) else (R : Int)) = ((max R C : Nat) : Int) := by split <;> omega

theorem run_max_nat (P : Program) (ts : Array TypeId) (t : TypeId) (x y : Nat) (w : World) : (Builtin.max_ ts t #[.int .i64 (x : Int), .int .i64 (y : Int)]).run P w = .ok (.int .i64 ((max x y : Nat) : Int)) w := by
  rw [← max_int]
  simp [Builtin.max_, Builtin.max2]
attribute [local go_sem ↓] run_max_nat
end Go.Proofs.Ytbdlfaclakppgaa
/-
Norms: the greatest of what is handed in; numbers without signs; what is handed in. Conditions: as each says.
-/
set_option linter.unusedVariables false
set_option linter.unusedSimpArgs false
set_option linter.unnecessarySimpa false
namespace Go.Proofs.Ytbdlfaclakppgaa
open Go.RowKit
attribute [local go_sem ↓] Go.wp_at_zero Go.wp_at_succ


set_option maxHeartbeats 2000000 in
theorem nrgreatest_bad (A : Option Addr) (n c : Nat) (off r k ld : Int) (N : Int) (F : Value) (w : World) (hn : n < 9223372036854775808) (ho : I64 off) (hr : I64 r) (hk : I64 k) (hi : I64 ld) (hgd : matB n off r k ld = false) :
    Calls Try.prog 22 #[mat A n c off r k ld, .int .i64 N, F] w fun e w' => e = .returned (.tuple #[.float .f64 0, .int .i64 1]) ∧ Below w.heap.size w w' := by
  have HG := Lib.hid (fun W => good_any A n c off r k ld W hn ho hr hk hi)
  rw [hgd] at HG
  clear hn ho hr hk hi hgd
  unfold mat at *
  go_enter Try.func22, Try.ntmps22
  have HB0 := Lib.hid ((Below.refl w.heap.size w).alloc (Nat.le_refl _) (.cells #[.slice A n c, .int .i64 off, .int .i64 r, .int .i64 k, .int .i64 ld] 24))
  go_wp2_with fail
  refine (HG.out _).mono ?_
  rintro e w1 ⟨rfl, hb⟩
  have HB1 := Lib.hid (below_nx HB0.out hb)
  clear hb
  go_wp2_with fail
  go_ret2
  exact ⟨rfl, HB1.out⟩
set_option maxHeartbeats 2000000 in
theorem nrgreatest_none (A : Option Addr) (n c : Nat) (o R C L : Nat) (N : Int) (F : Value) (w : World) (hn : n < 9223372036854775808) (ho : I64 o) (hr : I64 R) (hk : I64 C) (hi : I64 L) (hgd : matB n o R C L = true) (h0 : R = 0 ∨ C = 0) :
    Calls Try.prog 22 #[mat A n c o R C L, .int .i64 N, F] w fun e w' => e = .returned (.tuple #[.float .f64 0, .int .i64 0]) ∧ Below w.heap.size w w' := by
  have HG := Lib.hid (fun W => good_any A n c o R C L W hn ho hr hk hi)
  rw [hgd] at HG
  obtain ⟨b1, hb1⟩ : ∃ b, ((R : Int) == 0) = b := ⟨_, rfl⟩
  obtain ⟨b2, hb2⟩ : ∃ b, ((C : Int) == 0) = b := ⟨_, rfl⟩
  have hbb : b1 = true ∨ (b1 = false ∧ b2 = true) := by
    rw [← hb1, ← hb2]
    simp
    omega
  clear hn ho hr hk hi hgd h0
  unfold mat at *
  rcases hbb with rfl | ⟨rfl, rfl⟩
  · go_enter Try.func22, Try.ntmps22
    have HZ0 := Lib.hid (Blk.new w 24 #[.slice A n c, .int .i64 o, .int .i64 R, .int .i64 C, .int .i64 L])
    have HB0 := Lib.hid ((Below.refl w.heap.size w).alloc (Nat.le_refl _) (.cells #[.slice A n c, .int .i64 o, .int .i64 R, .int .i64 C, .int .i64 L] 24))
    go_wp2_with fail
    refine (HG.out _).mono ?_
    rintro e w1 ⟨rfl, hb⟩
    have HB1 := Lib.hid (below_nx HB0.out hb)
    have HZ1 := Lib.hid (HZ0.out.nxt hb)
    clear hb
    obtain ⟨c0, c1, c2, c3, c4⟩ := cells5 HZ1.out
    go_wp2_with fail
    go_ret2
    exact ⟨rfl, HB1.out⟩
  · go_enter Try.func22, Try.ntmps22
    have HZ0 := Lib.hid (Blk.new w 24 #[.slice A n c, .int .i64 o, .int .i64 R, .int .i64 C, .int .i64 L])
    have HB0 := Lib.hid ((Below.refl w.heap.size w).alloc (Nat.le_refl _) (.cells #[.slice A n c, .int .i64 o, .int .i64 R, .int .i64 C, .int .i64 L] 24))
    go_wp2_with fail
    refine (HG.out _).mono ?_
    rintro e w1 ⟨rfl, hb⟩
    have HB1 := Lib.hid (below_nx HB0.out hb)
    have HZ1 := Lib.hid (HZ0.out.nxt hb)
    clear hb
    obtain ⟨c0, c1, c2, c3, c4⟩ := cells5 HZ1.out
    go_wp2_with fail
    go_ret2
    exact ⟨rfl, HB1.out⟩

set_option maxRecDepth 100000 in
set_option maxHeartbeats 2000000 in
/-- What is handed in comes to the numbers of V: the greatest of them is told. -/
theorem nrgreatest_ok (F : FuncId) (caps : Array Value) (A : Option Addr) (n c : Nat) (o R C L N : Nat) (V : List Nat) (w : World)
    (hF : ∀ args W, (callFunc F args).run Try.prog W = .ok (.enter F args) W) (hn : n < 9223372036854775808) (ho : I64 o) (hr : I64 R) (hk : I64 C) (hi : I64 L) (hgd : matB n o R C L = true) (hR0 : R ≠ 0) (hC0 : C ≠ 0) (hN : N < 1048576) (hV : Wds V)
    (hC : ∀ W k, k < N → Below w.heap.size w W → Calls Try.prog F (#[.int .i64 (k : Int)] ++ caps) W fun e w' => ∃ r, e = .returned (.float .f64 r) ∧ Is r (V.getD k 0) ∧ Below W.heap.size W w') :
    Calls Try.prog 22 #[mat A n c o R C L, .int .i64 (N : Int), .func (.func F) #[] caps] w fun e w' => ∃ r, e = .returned (.tuple #[.float .f64 r, .int .i64 0]) ∧ Is r (gF V N) ∧ Below w.heap.size w w' := by
  have HG := Lib.hid (fun W => good_any A n c o R C L W hn ho hr hk hi)
  rw [hgd] at HG
  have e1 : ((R : Int) == 0) = false := by simp; omega
  have e2 : ((C : Int) == 0) = false := by simp; omega
  have HCa := Lib.hid hC
  have HV := Lib.hid hV
  have HGt := Lib.hid (fun (g x y : Nat) (W : World) (hx : x < 18446744073709551616) (hy : y < 18446744073709551616) (hA : Row W (some ⟨g, 0, none⟩) (f64s [x, y])) => great5_any (some ⟨g, 0, none⟩) 2 2 [x, y] W hA (by
    intro b hb
    rcases List.mem_cons.1 hb with rfl | hb
    · exact hx
    · rcases List.mem_cons.1 hb with rfl | hb
      · exact hy
      · cases hb) rfl (by omega))
  clear hn ho hr hk hi hgd hR0 hC0 hC hV
  unfold mat at *
  go_enter Try.func22, Try.ntmps22
  have HZ0 := Lib.hid (Blk.new w 24 #[.slice A n c, .int .i64 o, .int .i64 R, .int .i64 C, .int .i64 L])
  have HB0 := Lib.hid ((Below.refl w.heap.size w).alloc (Nat.le_refl _) (.cells #[.slice A n c, .int .i64 o, .int .i64 R, .int .i64 C, .int .i64 L] 24))
  go_wp2_with fail
  refine (HG.out _).mono ?_
  rintro e w1 ⟨rfl, hb⟩
  have HB1 := Lib.hid (below_nx HB0.out hb)
  have HZ1 := Lib.hid (HZ0.out.nxt hb)
  clear hb
  obtain ⟨c0, c1, c2, c3, c4⟩ := cells5 HZ1.out
  go_wp2_with fail
  clear c0 c1 c2 c3 c4
  go_loopw [8, 24] (fun s a wr => ∃ q r : Nat, q ≤ N ∧ s = .float .f64 r ∧ a = .int .i64 q ∧ Is r (gF V q) ∧ Below w.heap.size w wr) (fun _ a _ => N - (intOf a).toNat)
  case atStart => exact ⟨0, 0, Nat.zero_le _, rfl, rfl, is_zero, HB1.out⟩
  case round =>
    obtain ⟨q, r, hq, rfl, rfl, his, hbl⟩ := hrel
    have HIs := Lib.hid his
    have HBl := Lib.hid hbl
    clear his hbl
    by_cases hlt : q < N
    · have hqc : (q : Int) < (N : Int) := by omega
      have hq1 : q + 1 ≤ 1048576 := by omega
      go_wp2_with fail
      refine (HCa.out wr q hlt HBl.out).mono ?_
      rintro e w2 ⟨x, rfl, hx, hb⟩
      have HX := Lib.hid hx
      have HB2 := Lib.hid (below_al (below_nx HBl.out hb) (o := .cells (f64s [r, x]).toArray 27))
      have HR := Lib.hid (row_of_blk (Blk.new w2 27 (f64s [r, x]).toArray))
      clear hx hb
      go_wp2_with fail
      refine (HGt.out _ r x _ HIs.out.lt HX.out.lt HR.out).mono ?_
      rintro e w3 ⟨s, rfl, hs, hb⟩
      have HS := Lib.hid (gF_next HV.out HIs.out HX.out hs)
      have HB3 := Lib.hid (below_nx HB2.out hb)
      clear hs hb
      go_wp2_with fail
      go_roundw
      case rel => exact ⟨q + 1, s, by omega, rfl, by go_num, HS.out, HB3.out⟩
      case measure => simp [intOf]; omega
    · obtain rfl : q = N := by omega
      have hqc : ¬ (q : Int) < (q : Int) := by omega
      go_wp2_with fail
      go_ret2
      exact ⟨_, rfl, HIs.out, HBl.out⟩

theorem abs_wds (l : List Nat) : Wds (l.map absW) := by
  intro b hb
  obtain ⟨x, _, rfl⟩ := List.mem_map.1 hb
  have := absW_lt x
  omega
theorem abs_getD (l : List Nat) (k : Nat) : (l.map absW).getD k 0 = absW (l.getD k 0) := by
  by_cases h : k < l.length
  · simp [List.getD, h]
  · simp [List.getD, h]; rfl
theorem sum_abs (l : List Nat) : ∀ k, sumF (l.map absW) k = asumF l k
  | 0 => rfl
  | k + 1 => by rw [sumF, asumF, sum_abs l k, abs_getD]

set_option maxRecDepth 100000 in
set_option maxHeartbeats 2000000 in
theorem nrvector_any (A : Option Addr) (n c : Nat) (l : List Nat) (w : World) (hA : Row w A (f64s l)) (hW : Wds l) (hl : l.length = n) (hn : n < 1048576) :
    Calls Try.prog 17 #[.slice A n c] w fun e w' => ∃ r s, e = .returned (.tuple #[.float .f64 r, .float .f64 s]) ∧ Is r (asumF l n) ∧ Is s (gF (l.map absW) n) ∧ Below w.heap.size w w' := by
  have hm0 := fun W => frun_make n (by omega) W
  have HA := Lib.hid hA
  have HW := Lib.hid hW
  have Hl := Lib.hid hl
  have HDn := Lib.hid (fun (m : List Nat) (hm : m.length = n) (h : ∀ j, j < n → m.getD j 0 = absW (l.getD j 0)) => show m = l.map absW from ext_getD (by rw [hm, List.length_map, hl]) (fun i hi => by rw [abs_getD, h i (by omega)]))
  have HSu := Lib.hid (fun (g : Nat) (W : World) (h : Row W (some ⟨g, 0, none⟩) (f64s (l.map absW))) => sumsum_any (some ⟨g, 0, none⟩) n n (l.map absW) W h (abs_wds l) (by rw [List.length_map, hl]) hn)
  have HGt := Lib.hid (fun (g : Nat) (W : World) (h : Row W (some ⟨g, 0, none⟩) (f64s (l.map absW))) => great5_any (some ⟨g, 0, none⟩) n n (l.map absW) W h (abs_wds l) (by rw [List.length_map, hl]) hn)
  have hse := sum_abs l n
  rw [hse] at HSu
  clear hse hA hW hl
  go_enter Try.func17, Try.ntmps17
  have HB0 := Lib.hid ((Below.refl w.heap.size w).alloc (Nat.le_refl _) (.cells (f64s (List.replicate n 0)).toArray 27))
  have HG := Lib.hid (own_blk (Blk.new w 27 (f64s (List.replicate n 0)).toArray))
  go_wp2_with fail
  go_loopw [12] (fun a wr => ∃ (q : Nat) (m : List Nat), q ≤ n ∧ a = .int .i64 q ∧ Hid (Own wr w.heap.size m ∧ m.length = n ∧ (∀ j, j < q → m.getD j 0 = absW (l.getD j 0)) ∧ Below w.heap.size w wr)) (fun a _ => n - (intOf a).toNat)
  case atStart => exact ⟨0, _, Nat.zero_le _, rfl, Lib.hid ⟨HG.out, by simp, fun j hj => by omega, HB0.out⟩⟩
  case round =>
    obtain ⟨q, m, hq, rfl, HH⟩ := hrel
    by_cases hlt : q < n
    · obtain ⟨b, o, rfl, hc0⟩ := HA.out.get0 (k := q) (by rw [Hl.out]; exact hlt)
      have hc := cell_below hc0 HH.out.2.2.2
      have HXl := Lib.hid (getD_wds HW.out q)
      have hqm : q < m.length := by rw [HH.out.2.1]; exact hlt
      have hk := HH.out.1.get q hqm
      generalize m[q] = v0 at hk
      have hfz := HH.out.1.frozen q
      have HDone := Lib.hid (show Own (wr.setCell ⟨w.heap.size, q, none⟩ (.float .f64 (absW (l.getD q 0)))) w.heap.size (m.set q (absW (l.getD q 0))) ∧ (m.set q (absW (l.getD q 0))).length = n ∧ (∀ j, j < q + 1 → (m.set q (absW (l.getD q 0))).getD j 0 = absW (l.getD j 0)) ∧ Below w.heap.size w (wr.setCell ⟨w.heap.size, q, none⟩ (.float .f64 (absW (l.getD q 0)))) from
        ⟨HH.out.1.set_ _ _ hqm, by rw [List.length_set]; exact HH.out.2.1, fun j hj => by
          by_cases e : j = q
          · subst e; rw [getD_set_self hqm]
          · rw [getD_set_ne _ (fun h => e (by first | exact h | exact h.symm))]; exact HH.out.2.2.1 j (by omega), HH.out.2.2.2.setCell (p := ⟨w.heap.size, q, none⟩) (Nat.le_refl _) _⟩)
      obtain ⟨x, hx⟩ : ∃ x, l.getD q 0 = x := ⟨_, rfl⟩
      rw [hx] at hc HXl HDone
      have hqc : (q : Int) < (n : Int) := by omega
      have hq1 : q + 1 ≤ 1048576 := by omega
      have hgl : w.heap.size < wr.heap.size := HH.out.1.lt
      clear hc0 hx hqm
      go_wp2_with fail
      refine (mabs_any x _ HXl.out).mono ?_
      rintro e w3 ⟨rfl, rfl⟩
      go_wp2_with fail
      go_roundw
      case rel => exact ⟨q + 1, _, by omega, by go_num, HDone⟩
      case measure => simp [intOf]; omega
    · obtain rfl : q = n := by omega
      have hqc : ¬ (q : Int) < (q : Int) := by omega
      have hm := HDn.out m HH.out.2.1 HH.out.2.2.1
      subst hm
      have HR := Lib.hid HH.out.1.row
      have HBr := Lib.hid HH.out.2.2.2
      go_wp2_with fail
      refine (HSu.out _ _ HR.out).mono ?_
      rintro e w4 ⟨r, rfl, hr, hb⟩
      have HRs := Lib.hid hr
      have HB4 := Lib.hid (below_nx HBr.out hb)
      have HR4 := Lib.hid (HR.out.below hb)
      clear hr hb
      go_wp2_with fail
      refine (HGt.out _ _ HR4.out).mono ?_
      rintro e w5 ⟨s, rfl, hs, hb⟩
      have HS := Lib.hid hs
      have HB5 := Lib.hid (below_nx HB4.out hb)
      clear hs hb
      go_wp2_with fail
      go_ret2
      exact ⟨_, _, rfl, HRs.out, HS.out, HB5.out⟩

theorem nrone_enters : Enters Try.prog 23 := enters_of Try.func23 (by kernel_rfl) rfl
theorem nrinf_enters : Enters Try.prog 26 := enters_of Try.func26 (by kernel_rfl) rfl
theorem nrmax_enters : Enters Try.prog 28 := enters_of Try.func28 (by kernel_rfl) rfl

set_option maxHeartbeats 2000000 in
theorem nrone_one (p : Nat) (A : Option Addr) (n c : Nat) (l : List Nat) (o R C L j : Nat) (w : World) (hp : Blk w p 24 #[.slice A n c, .int .i64 o, .int .i64 R, .int .i64 C, .int .i64 L]) (hA : Row w A (f64s l)) (hW : Wds l) (hl : l.length = n) (hn : n < 1048576) (hoI : I64 o) (hLI : I64 L) (hR : R < 1048576) (hC : C < 1048576) (hR0 : R ≠ 0) (hC0 : C ≠ 0) (hL1 : 1 ≤ L) (hRL : R ≤ L) (hmr : o + (C - 1) * L + (R - 1) < n) (hj : j < C) :
    Calls Try.prog 23 #[.int .i64 (j : Int), .pointer (some ⟨p, 0, none⟩)] w fun e w' => ∃ r, e = .returned (.float .f64 r) ∧ Is r (asumF (lst l (o + j * L) 1 R) R) ∧ Below w.heap.size w w' := by
  have hOn : (o + j * L) + (R - 1) * 1 < n := by
    have h1 : j * L ≤ (C - 1) * L := Nat.mul_le_mul_right _ (by omega)
    omega
  have HCo := Lib.hid (fun W => ncol_some A n c o R C L j W (by omega) hoI (by unfold I64; omega) (by unfold I64; omega) hLI (by unfold I64; omega) (mat_right hL1 hRL (.inr (.inr hmr))) (by omega))
  have hof : ncolOff (o : Int) (R : Int) (L : Int) (j : Int) = ((o + j * L : Nat) : Int) := by unfold ncolOff; rw [if_neg (by omega)]; simp
  rw [hof] at HCo
  clear hof
  have HAs := Lib.hid (fun W (hb : Below w.heap.size w W) => asum_ok A n c l ((o + j * L)) R 1 W (hA.below hb) hW hl hn (.inr hOn) (by omega) (vec_right (by omega) (.inr hOn)) (by unfold I64; omega) (by first | exact hLI | (unfold I64; omega)))
  obtain ⟨P, hP⟩ : ∃ P, (o + j * L) = P := ⟨_, rfl⟩
  rw [hP] at HCo HAs
  have HZ := Lib.hid hp
  clear hp hA hW hl hn hoI hLI hR hC hR0 hC0 hL1 hRL hmr hj hOn
  unfold mat vec at *
  obtain ⟨c0, c1, c2, c3, c4⟩ := cells5 HZ.out
  go_enter Try.func23, Try.ntmps23
  go_wp2_with fail
  refine (HCo.out _).mono ?_
  rintro e w1 ⟨rfl, hb⟩
  have HB1 := Lib.hid hb
  clear hb c0 c1 c2 c3 c4
  go_wp2_with fail
  refine (HAs.out _ HB1.out).mono ?_
  rintro e w2 ⟨r, rfl, hr, hb⟩
  have HR := Lib.hid (And.intro hr (below_nx HB1.out hb))
  clear hr hb
  go_wp2_with fail
  go_ret
  exact ⟨_, rfl, by rw [hP]; exact HR.out.1, HR.out.2⟩

set_option maxHeartbeats 2000000 in
theorem nrinf_one (p : Nat) (A : Option Addr) (n c : Nat) (l : List Nat) (o R C L j : Nat) (w : World) (hp : Blk w p 24 #[.slice A n c, .int .i64 o, .int .i64 R, .int .i64 C, .int .i64 L]) (hA : Row w A (f64s l)) (hW : Wds l) (hl : l.length = n) (hn : n < 1048576) (hoI : I64 o) (hLI : I64 L) (hR : R < 1048576) (hC : C < 1048576) (hR0 : R ≠ 0) (hC0 : C ≠ 0) (hL1 : 1 ≤ L) (hRL : R ≤ L) (hmr : o + (C - 1) * L + (R - 1) < n) (hj : j < R) :
    Calls Try.prog 26 #[.int .i64 (j : Int), .pointer (some ⟨p, 0, none⟩)] w fun e w' => ∃ r, e = .returned (.float .f64 r) ∧ Is r (asumF (lst l (o + j) L C) C) ∧ Below w.heap.size w w' := by
  have hOn : (o + j) + (C - 1) * L < n := by
    generalize (C - 1) * L = z at *
    omega
  have HCo := Lib.hid (fun W => vrow_some A n c o R C L j W (by omega) hoI (by unfold I64; omega) (by unfold I64; omega) hLI (by unfold I64; omega) (mat_right hL1 hRL (.inr (.inr hmr))) (by omega))
  have hof : rowOff (o : Int) (C : Int) (j : Int) = ((o + j : Nat) : Int) := by unfold rowOff; rw [if_neg (by omega)]; simp
  rw [hof] at HCo
  clear hof
  have HAs := Lib.hid (fun W (hb : Below w.heap.size w W) => asum_ok A n c l ((o + j)) C L W (hA.below hb) hW hl hn (.inr hOn) (by omega) (vec_right (by omega) (.inr hOn)) (by unfold I64; omega) (by first | exact hLI | (unfold I64; omega)))
  obtain ⟨P, hP⟩ : ∃ P, (o + j) = P := ⟨_, rfl⟩
  rw [hP] at HCo HAs
  have HZ := Lib.hid hp
  clear hp hA hW hl hn hoI hLI hR hC hR0 hC0 hL1 hRL hmr hj hOn
  unfold mat vec at *
  obtain ⟨c0, c1, c2, c3, c4⟩ := cells5 HZ.out
  go_enter Try.func26, Try.ntmps26
  go_wp2_with fail
  refine (HCo.out _).mono ?_
  rintro e w1 ⟨rfl, hb⟩
  have HB1 := Lib.hid hb
  clear hb c0 c1 c2 c3 c4
  go_wp2_with fail
  refine (HAs.out _ HB1.out).mono ?_
  rintro e w2 ⟨r, rfl, hr, hb⟩
  have HR := Lib.hid (And.intro hr (below_nx HB1.out hb))
  clear hr hb
  go_wp2_with fail
  go_ret
  exact ⟨_, rfl, by rw [hP]; exact HR.out.1, HR.out.2⟩

set_option maxHeartbeats 2000000 in
theorem nrmax_one (p : Nat) (A : Option Addr) (n c : Nat) (l : List Nat) (o R C L j : Nat) (w : World) (hp : Blk w p 24 #[.slice A n c, .int .i64 o, .int .i64 R, .int .i64 C, .int .i64 L]) (hA : Row w A (f64s l)) (hW : Wds l) (hl : l.length = n) (hnc : n ≤ c) (hn : n < 1048576) (hoI : I64 o) (hLI : I64 L) (hR : R < 1048576) (hC : C < 1048576) (hR0 : R ≠ 0) (hC0 : C ≠ 0) (hL1 : 1 ≤ L) (hRL : R ≤ L) (hmr : o + (C - 1) * L + (R - 1) < n) (hj : j < R) :
    Calls Try.prog 28 #[.int .i64 (j : Int), .pointer (some ⟨p, 0, none⟩)] w fun e w' => ∃ r, e = .returned (.float .f64 r) ∧ Is r (gF ((colsL l (o + j) 1 L C).map absW) C) ∧ Below w.heap.size w w' := by
  have hon : o + j < n := by
    generalize (C - 1) * L = z at *
    omega
  have HPt := Lib.hid (fun W => part_some A n c o R C L j 0 1 C W (by omega) hoI (by unfold I64; omega) (by unfold I64; omega) hLI (by unfold I64; omega) (by unfold I64; omega) (by unfold I64; omega) (by unfold I64; omega) (by
    unfold partB
    rw [mat_right hL1 hRL (.inr (.inr hmr))]
    have e1 : fitsB (j : Int) 1 (R : Int) = true := decide_eq_true (by omega)
    have e2 : fitsB 0 (C : Int) (C : Int) = true := decide_eq_true (by omega)
    rw [e1, e2]; rfl))
  have hof : partOff (o : Int) (L : Int) (j : Int) 0 1 (C : Int) = ((o + j : Nat) : Int) := by unfold partOff; rw [if_neg (by omega)]; simp
  rw [hof] at HPt
  have HNu := Lib.hid (fun W (hb : Below w.heap.size w W) => show Calls Try.prog 29 #[mat A n c ((o + j : Nat) : Int) 1 C L] W fun e w' => ∃ B d, e = .returned (.slice B C d) ∧ Row w' B (f64s (colsL l (o + j) 1 L C)) ∧ Below W.heap.size W w' from by
    have := numbers_any A n c l (o + j) 1 C L C W (hA.below hb) hl hnc hn (by unfold I64 at hLI; omega) (by omega) hL1 (by omega) (.inr (.inr (by
      generalize (C - 1) * L = z at *
      omega)))
    refine this.mono ?_
    rintro e w' ⟨B, d, h1, h2, _, h3⟩
    exact ⟨B, d, h1, h2, h3⟩)
  have HVe := Lib.hid (fun (B : Option Addr) (d : Nat) W (h : Row W B (f64s (colsL l (o + j) 1 L C))) => nrvector_any B C d (colsL l (o + j) 1 L C) W h (colsL_wds hW _ _ _ _) (by rw [colsL_length]; omega) hC)
  obtain ⟨P, hP⟩ : ∃ P, o + j = P := ⟨_, rfl⟩
  rw [hP] at HPt HNu HVe
  have HZ := Lib.hid hp
  clear hp hA hW hl hnc hn hoI hLI hR hC hR0 hC0 hL1 hRL hmr hj hon hof
  unfold mat at *
  obtain ⟨c0, c1, c2, c3, c4⟩ := cells5 HZ.out
  go_enter Try.func28, Try.ntmps28
  go_wp2_with fail
  refine (HPt.out _).mono ?_
  rintro e w1 ⟨rfl, hb⟩
  have HB1 := Lib.hid hb
  clear hb c0 c1 c2 c3 c4
  go_wp2_with fail
  refine (HNu.out _ HB1.out).mono ?_
  rintro e w2 ⟨B, d, rfl, hR, hb⟩
  have HRw := Lib.hid hR
  have HB2 := Lib.hid (below_nx HB1.out hb)
  clear hR hb
  go_wp2_with fail
  refine (HVe.out B d _ HRw.out).mono ?_
  rintro e w3 ⟨r, s, rfl, _, hs, hb⟩
  have HR := Lib.hid (And.intro hs (below_nx HB2.out hb))
  clear hs hb
  go_wp2_with fail
  go_ret
  exact ⟨_, rfl, by rw [hP]; exact HR.out.1, HR.out.2⟩

end Go.Proofs.Ytbdlfaclakppgaa
/-
Norms: the program's One, Inf, Max. Conditions: as each says.
-/
set_option linter.unusedVariables false
set_option linter.unusedSimpArgs false
set_option linter.unnecessarySimpa false
namespace Go.Proofs.Ytbdlfaclakppgaa
open Go.RowKit
attribute [local go_sem ↓] Go.wp_at_zero Go.wp_at_succ

/-- The columns' sums, the rows', the rows' greatest. -/
def colS (l : List Nat) (o R C L : Nat) : List Nat := (List.range C).map fun j => asumF (lst l (o + j * L) 1 R) R
def rowS (l : List Nat) (o R C L : Nat) : List Nat := (List.range R).map fun i => asumF (lst l (o + i) L C) C
def rowM (l : List Nat) (o R C L : Nat) : List Nat := (List.range R).map fun i => gF ((colsL l (o + i) 1 L C).map absW) C
theorem nrmap_getD {f : Nat → Nat} {N k : Nat} (h : k < N) : ((List.range N).map f).getD k 0 = f k := by simp [List.getD, h]
theorem asumF_lt (l : List Nat) : ∀ k, asumF l k < 18446744073709551616
  | 0 => by show (0 : Nat) < _; omega
  | k + 1 => fbin_lt _ _ _
theorem nrmap_wds {f : Nat → Nat} (N : Nat) (h : ∀ k, f k < 18446744073709551616) : Wds ((List.range N).map f) := by
  intro b hb
  obtain ⟨k, _, rfl⟩ := List.mem_map.1 hb
  exact h k
/-- What One, Inf, Max come to. -/
def nrZ1 (l : List Nat) (o R C L : Nat) : Nat := if R = 0 ∨ C = 0 then 0 else gF (colS l o R C L) C
def nrZ2 (l : List Nat) (o R C L : Nat) : Nat := if R = 0 ∨ C = 0 then 0 else gF (rowS l o R C L) R
def nrZ3 (l : List Nat) (o R C L : Nat) : Nat := if R = 0 ∨ C = 0 then 0 else gF (rowM l o R C L) R

set_option maxHeartbeats 2000000 in
theorem nrone_bad (A : Option Addr) (n c : Nat) (off r k ld : Int) (w : World) (hn : n < 9223372036854775808) (ho : I64 off) (hr : I64 r) (hk : I64 k) (hi : I64 ld) (hgd : matB n off r k ld = false) :
    Calls Try.prog 8 #[mat A n c off r k ld] w fun e w' => e = .returned (.tuple #[.float .f64 0, .int .i64 1]) ∧ Below w.heap.size w w' := by
  have HG := Lib.hid (fun N F W => nrgreatest_bad A n c off r k ld N F W hn ho hr hk hi hgd)
  clear hn ho hr hk hi hgd
  unfold mat at *
  have HZ0 := Lib.hid (Blk.new w 24 #[.slice A n c, .int .i64 off, .int .i64 r, .int .i64 k, .int .i64 ld])
  have HB0 := Lib.hid ((Below.refl w.heap.size w).alloc (Nat.le_refl _) (.cells #[.slice A n c, .int .i64 off, .int .i64 r, .int .i64 k, .int .i64 ld] 24))
  obtain ⟨c0, c1, c2, c3, c4⟩ := cells5 HZ0.out
  go_enter Try.func8, Try.ntmps8
  go_wp2_with fail
  refine (HG.out _ _ _).mono ?_
  rintro e w1 ⟨rfl, hb⟩
  have HB1 := Lib.hid (below_nx HB0.out hb)
  clear hb c0 c1 c2 c3 c4
  go_wp2_with fail
  go_ret2
  exact ⟨rfl, HB1.out⟩
set_option maxHeartbeats 2000000 in
theorem nrone_any (A : Option Addr) (n c : Nat) (l : List Nat) (o R C L : Nat) (w : World) (hA : Row w A (f64s l)) (hW : Wds l) (hl : l.length = n) (hn : n < 1048576) (hoI : I64 o) (hLI : I64 L) (hR : R < 1048576) (hC : C < 1048576) (hL1 : 1 ≤ L) (hRL : R ≤ L) (hmr : R = 0 ∨ C = 0 ∨ o + (C - 1) * L + (R - 1) < n) :
    Calls Try.prog 8 #[mat A n c o R C L] w fun e w' => ∃ r, e = .returned (.tuple #[.float .f64 r, .int .i64 0]) ∧ Is r (nrZ1 l o R C L) ∧ Below w.heap.size w w' := by
  have HG := Lib.hid (fun W (hb : Below w.heap.size w W) (hZ : Blk W w.heap.size 24 #[.slice A n c, .int .i64 o, .int .i64 R, .int .i64 C, .int .i64 L]) => show Calls Try.prog 22 #[mat A n c o R C L, .int .i64 (C : Int), .func (.func 23) #[] #[.pointer (some ⟨w.heap.size, 0, none⟩)]] W fun e w' => ∃ r, e = .returned (.tuple #[.float .f64 r, .int .i64 0]) ∧ Is r (nrZ1 l o R C L) ∧ Below W.heap.size W w' from by
    by_cases h0 : R = 0 ∨ C = 0
    · refine (nrgreatest_none A n c o R C L _ _ W (by omega) hoI (by unfold I64; omega) (by unfold I64; omega) hLI (mat_right hL1 hRL hmr) h0).mono ?_
      rintro e w' ⟨rfl, hb'⟩
      exact ⟨0, rfl, by unfold nrZ1; rw [if_pos h0]; exact is_zero, hb'⟩
    · have hmr2 : o + (C - 1) * L + (R - 1) < n := by
        rcases hmr with h | h | h
        · exact absurd (.inl h) h0
        · exact absurd (.inr h) h0
        · exact h
      have := nrgreatest_ok 23 #[.pointer (some ⟨w.heap.size, 0, none⟩)] A n c o R C L C (colS l o R C L) W (fun args W => nrone_enters args W) (by omega) hoI (by unfold I64; omega) (by unfold I64; omega) hLI (mat_right hL1 hRL hmr) (fun e => h0 (.inl e)) (fun e => h0 (.inr e)) (by omega) (nrmap_wds _ (fun k => asumF_lt _ _)) (fun W' k hk hb' => by
        have := nrone_one w.heap.size A n c l o R C L k W' (hZ.nxt hb') ((hA.below hb).below hb') hW hl hn hoI hLI hR hC (fun e => h0 (.inl e)) (fun e => h0 (.inr e)) hL1 hRL hmr2 hk
        unfold colS
        rw [nrmap_getD hk]
        exact this)
      refine this.mono ?_
      rintro e w' ⟨r, rfl, hr, hb'⟩
      exact ⟨r, rfl, by unfold nrZ1; rw [if_neg h0]; exact hr, hb'⟩)
  clear hA hW hl hn hoI hLI hR hC hL1 hRL hmr
  generalize nrZ1 l o R C L = z at *
  unfold mat at *
  have HZ0 := Lib.hid (Blk.new w 24 #[.slice A n c, .int .i64 o, .int .i64 R, .int .i64 C, .int .i64 L])
  have HB0 := Lib.hid ((Below.refl w.heap.size w).alloc (Nat.le_refl _) (.cells #[.slice A n c, .int .i64 o, .int .i64 R, .int .i64 C, .int .i64 L] 24))
  obtain ⟨c0, c1, c2, c3, c4⟩ := cells5 HZ0.out
  go_enter Try.func8, Try.ntmps8
  go_wp2_with fail
  refine (HG.out _ HB0.out HZ0.out).mono ?_
  rintro e w1 ⟨r, rfl, hr, hb⟩
  have HB1 := Lib.hid (And.intro hr (below_nx HB0.out hb))
  clear hr hb c0 c1 c2 c3 c4
  go_wp2_with fail
  go_ret2
  exact ⟨r, rfl, HB1.out⟩

set_option maxHeartbeats 2000000 in
theorem nrinf_bad (A : Option Addr) (n c : Nat) (off r k ld : Int) (w : World) (hn : n < 9223372036854775808) (ho : I64 off) (hr : I64 r) (hk : I64 k) (hi : I64 ld) (hgd : matB n off r k ld = false) :
    Calls Try.prog 9 #[mat A n c off r k ld] w fun e w' => e = .returned (.tuple #[.float .f64 0, .int .i64 1]) ∧ Below w.heap.size w w' := by
  have HG := Lib.hid (fun N F W => nrgreatest_bad A n c off r k ld N F W hn ho hr hk hi hgd)
  clear hn ho hr hk hi hgd
  unfold mat at *
  have HZ0 := Lib.hid (Blk.new w 24 #[.slice A n c, .int .i64 off, .int .i64 r, .int .i64 k, .int .i64 ld])
  have HB0 := Lib.hid ((Below.refl w.heap.size w).alloc (Nat.le_refl _) (.cells #[.slice A n c, .int .i64 off, .int .i64 r, .int .i64 k, .int .i64 ld] 24))
  obtain ⟨c0, c1, c2, c3, c4⟩ := cells5 HZ0.out
  go_enter Try.func9, Try.ntmps9
  go_wp2_with fail
  refine (HG.out _ _ _).mono ?_
  rintro e w1 ⟨rfl, hb⟩
  have HB1 := Lib.hid (below_nx HB0.out hb)
  clear hb c0 c1 c2 c3 c4
  go_wp2_with fail
  go_ret2
  exact ⟨rfl, HB1.out⟩
set_option maxHeartbeats 2000000 in
theorem nrinf_any (A : Option Addr) (n c : Nat) (l : List Nat) (o R C L : Nat) (w : World) (hA : Row w A (f64s l)) (hW : Wds l) (hl : l.length = n) (hn : n < 1048576) (hoI : I64 o) (hLI : I64 L) (hR : R < 1048576) (hC : C < 1048576) (hL1 : 1 ≤ L) (hRL : R ≤ L) (hmr : R = 0 ∨ C = 0 ∨ o + (C - 1) * L + (R - 1) < n) :
    Calls Try.prog 9 #[mat A n c o R C L] w fun e w' => ∃ r, e = .returned (.tuple #[.float .f64 r, .int .i64 0]) ∧ Is r (nrZ2 l o R C L) ∧ Below w.heap.size w w' := by
  have HG := Lib.hid (fun W (hb : Below w.heap.size w W) (hZ : Blk W w.heap.size 24 #[.slice A n c, .int .i64 o, .int .i64 R, .int .i64 C, .int .i64 L]) => show Calls Try.prog 22 #[mat A n c o R C L, .int .i64 (R : Int), .func (.func 26) #[] #[.pointer (some ⟨w.heap.size, 0, none⟩)]] W fun e w' => ∃ r, e = .returned (.tuple #[.float .f64 r, .int .i64 0]) ∧ Is r (nrZ2 l o R C L) ∧ Below W.heap.size W w' from by
    by_cases h0 : R = 0 ∨ C = 0
    · refine (nrgreatest_none A n c o R C L _ _ W (by omega) hoI (by unfold I64; omega) (by unfold I64; omega) hLI (mat_right hL1 hRL hmr) h0).mono ?_
      rintro e w' ⟨rfl, hb'⟩
      exact ⟨0, rfl, by unfold nrZ2; rw [if_pos h0]; exact is_zero, hb'⟩
    · have hmr2 : o + (C - 1) * L + (R - 1) < n := by
        rcases hmr with h | h | h
        · exact absurd (.inl h) h0
        · exact absurd (.inr h) h0
        · exact h
      have := nrgreatest_ok 26 #[.pointer (some ⟨w.heap.size, 0, none⟩)] A n c o R C L R (rowS l o R C L) W (fun args W => nrinf_enters args W) (by omega) hoI (by unfold I64; omega) (by unfold I64; omega) hLI (mat_right hL1 hRL hmr) (fun e => h0 (.inl e)) (fun e => h0 (.inr e)) (by omega) (nrmap_wds _ (fun k => asumF_lt _ _)) (fun W' k hk hb' => by
        have := nrinf_one w.heap.size A n c l o R C L k W' (hZ.nxt hb') ((hA.below hb).below hb') hW hl hn hoI hLI hR hC (fun e => h0 (.inl e)) (fun e => h0 (.inr e)) hL1 hRL hmr2 hk
        unfold rowS
        rw [nrmap_getD hk]
        exact this)
      refine this.mono ?_
      rintro e w' ⟨r, rfl, hr, hb'⟩
      exact ⟨r, rfl, by unfold nrZ2; rw [if_neg h0]; exact hr, hb'⟩)
  clear hA hW hl hn hoI hLI hR hC hL1 hRL hmr
  generalize nrZ2 l o R C L = z at *
  unfold mat at *
  have HZ0 := Lib.hid (Blk.new w 24 #[.slice A n c, .int .i64 o, .int .i64 R, .int .i64 C, .int .i64 L])
  have HB0 := Lib.hid ((Below.refl w.heap.size w).alloc (Nat.le_refl _) (.cells #[.slice A n c, .int .i64 o, .int .i64 R, .int .i64 C, .int .i64 L] 24))
  obtain ⟨c0, c1, c2, c3, c4⟩ := cells5 HZ0.out
  go_enter Try.func9, Try.ntmps9
  go_wp2_with fail
  refine (HG.out _ HB0.out HZ0.out).mono ?_
  rintro e w1 ⟨r, rfl, hr, hb⟩
  have HB1 := Lib.hid (And.intro hr (below_nx HB0.out hb))
  clear hr hb c0 c1 c2 c3 c4
  go_wp2_with fail
  go_ret2
  exact ⟨r, rfl, HB1.out⟩

set_option maxHeartbeats 2000000 in
theorem nrmax_bad (A : Option Addr) (n c : Nat) (off r k ld : Int) (w : World) (hn : n < 9223372036854775808) (ho : I64 off) (hr : I64 r) (hk : I64 k) (hi : I64 ld) (hgd : matB n off r k ld = false) :
    Calls Try.prog 10 #[mat A n c off r k ld] w fun e w' => e = .returned (.tuple #[.float .f64 0, .int .i64 1]) ∧ Below w.heap.size w w' := by
  have HG := Lib.hid (fun N F W => nrgreatest_bad A n c off r k ld N F W hn ho hr hk hi hgd)
  clear hn ho hr hk hi hgd
  unfold mat at *
  have HZ0 := Lib.hid (Blk.new w 24 #[.slice A n c, .int .i64 off, .int .i64 r, .int .i64 k, .int .i64 ld])
  have HB0 := Lib.hid ((Below.refl w.heap.size w).alloc (Nat.le_refl _) (.cells #[.slice A n c, .int .i64 off, .int .i64 r, .int .i64 k, .int .i64 ld] 24))
  obtain ⟨c0, c1, c2, c3, c4⟩ := cells5 HZ0.out
  go_enter Try.func10, Try.ntmps10
  go_wp2_with fail
  refine (HG.out _ _ _).mono ?_
  rintro e w1 ⟨rfl, hb⟩
  have HB1 := Lib.hid (below_nx HB0.out hb)
  clear hb c0 c1 c2 c3 c4
  go_wp2_with fail
  go_ret2
  exact ⟨rfl, HB1.out⟩
set_option maxHeartbeats 2000000 in
theorem nrmax_any (A : Option Addr) (n c : Nat) (l : List Nat) (o R C L : Nat) (w : World) (hA : Row w A (f64s l)) (hW : Wds l) (hl : l.length = n) (hnc : n ≤ c) (hn : n < 1048576) (hoI : I64 o) (hLI : I64 L) (hR : R < 1048576) (hC : C < 1048576) (hL1 : 1 ≤ L) (hRL : R ≤ L) (hmr : R = 0 ∨ C = 0 ∨ o + (C - 1) * L + (R - 1) < n) :
    Calls Try.prog 10 #[mat A n c o R C L] w fun e w' => ∃ r, e = .returned (.tuple #[.float .f64 r, .int .i64 0]) ∧ Is r (nrZ3 l o R C L) ∧ Below w.heap.size w w' := by
  have HG := Lib.hid (fun W (hb : Below w.heap.size w W) (hZ : Blk W w.heap.size 24 #[.slice A n c, .int .i64 o, .int .i64 R, .int .i64 C, .int .i64 L]) => show Calls Try.prog 22 #[mat A n c o R C L, .int .i64 (R : Int), .func (.func 28) #[] #[.pointer (some ⟨w.heap.size, 0, none⟩)]] W fun e w' => ∃ r, e = .returned (.tuple #[.float .f64 r, .int .i64 0]) ∧ Is r (nrZ3 l o R C L) ∧ Below W.heap.size W w' from by
    by_cases h0 : R = 0 ∨ C = 0
    · refine (nrgreatest_none A n c o R C L _ _ W (by omega) hoI (by unfold I64; omega) (by unfold I64; omega) hLI (mat_right hL1 hRL hmr) h0).mono ?_
      rintro e w' ⟨rfl, hb'⟩
      exact ⟨0, rfl, by unfold nrZ3; rw [if_pos h0]; exact is_zero, hb'⟩
    · have hmr2 : o + (C - 1) * L + (R - 1) < n := by
        rcases hmr with h | h | h
        · exact absurd (.inl h) h0
        · exact absurd (.inr h) h0
        · exact h
      have := nrgreatest_ok 28 #[.pointer (some ⟨w.heap.size, 0, none⟩)] A n c o R C L R (rowM l o R C L) W (fun args W => nrmax_enters args W) (by omega) hoI (by unfold I64; omega) (by unfold I64; omega) hLI (mat_right hL1 hRL hmr) (fun e => h0 (.inl e)) (fun e => h0 (.inr e)) (by omega) (nrmap_wds _ (fun k => gF_lt (abs_wds _) _)) (fun W' k hk hb' => by
        have := nrmax_one w.heap.size A n c l o R C L k W' (hZ.nxt hb') ((hA.below hb).below hb') hW hl hnc hn hoI hLI hR hC (fun e => h0 (.inl e)) (fun e => h0 (.inr e)) hL1 hRL hmr2 hk
        unfold rowM
        rw [nrmap_getD hk]
        exact this)
      refine this.mono ?_
      rintro e w' ⟨r, rfl, hr, hb'⟩
      exact ⟨r, rfl, by unfold nrZ3; rw [if_neg h0]; exact hr, hb'⟩)
  clear hA hW hl hnc hn hoI hLI hR hC hL1 hRL hmr
  generalize nrZ3 l o R C L = z at *
  unfold mat at *
  have HZ0 := Lib.hid (Blk.new w 24 #[.slice A n c, .int .i64 o, .int .i64 R, .int .i64 C, .int .i64 L])
  have HB0 := Lib.hid ((Below.refl w.heap.size w).alloc (Nat.le_refl _) (.cells #[.slice A n c, .int .i64 o, .int .i64 R, .int .i64 C, .int .i64 L] 24))
  obtain ⟨c0, c1, c2, c3, c4⟩ := cells5 HZ0.out
  go_enter Try.func10, Try.ntmps10
  go_wp2_with fail
  refine (HG.out _ HB0.out HZ0.out).mono ?_
  rintro e w1 ⟨r, rfl, hr, hb⟩
  have HB1 := Lib.hid (And.intro hr (below_nx HB0.out hb))
  clear hr hb c0 c1 c2 c3 c4
  go_wp2_with fail
  go_ret2
  exact ⟨r, rfl, HB1.out⟩

end Go.Proofs.Ytbdlfaclakppgaa
/-
Two results that are made side by side, each with memory of its own. Conditions: as each says.
-/
set_option linter.unusedVariables false
set_option linter.unusedSimpArgs false
set_option linter.unnecessarySimpa false
namespace Go.Proofs.Ytbdlfaclakppgaa
open Go.RowKit
attribute [local go_sem ↓] Go.wp_at_zero Go.wp_at_succ

/-- Block g is of floats, and they meet S. -/
def OwnS (W : World) (S : Array Value → Prop) (g : Nat) : Prop := ∃ cs : Array Value, Blk W g 27 cs ∧ S cs
section
variable {W W' : World} {S S' : Array Value → Prop} {g : Nat}
theorem OwnS.nxt (h : OwnS W S g) (hb : Below W.heap.size W W') : OwnS W' S g := by
  obtain ⟨cs, h1, h2⟩ := h
  exact ⟨cs, h1.nxt hb, h2⟩
theorem OwnS.lt (h : OwnS W S g) : g < W.heap.size := by
  obtain ⟨cs, h1, h2⟩ := h
  exact h1.lt
theorem OwnS.ne_ {p : Nat} {t : TypeId} {cs : Array Value} (h : OwnS W S g) (hB : Blk W p t cs) (ht : t ≠ 27) : g ≠ p := by
  rintro rfl
  obtain ⟨cs', hB', _⟩ := h
  unfold Blk at hB hB'
  rw [hB] at hB'
  injection hB' with hB'
  injection hB' with _ e _
  exact ht e
theorem OwnS.far {p : Nat} (h : OwnS W S g) (hb : ∀ k, k ≠ p → W'.heap[k]? = W.heap[k]?) (hne : g ≠ p) : OwnS W' S g := by
  obtain ⟨cs', hB', h2⟩ := h
  exact ⟨cs', (hb g hne).trans hB', h2⟩
end
/-- Two results, each with a block of its own. -/
def Twn (Z : Nat) (S S' : Array Value → Prop) (f f' : Nat → Nat → Value) (d1 d3 : Bool) (va vb : Value) (W : World) : Prop :=
  d1 = true → ∃ g c, va = f g c ∧ OwnS W S g ∧ Z ≤ g ∧ (d3 = true → ∃ g' c', vb = f' g' c' ∧ OwnS W S' g' ∧ Z ≤ g' ∧ g ≠ g')
section
variable {Z : Nat} {S S' : Array Value → Prop} {f f' : Nat → Nat → Value} {d1 d3 : Bool} {va vb : Value} {W W' : World}
theorem Twn.nxt (h : Twn Z S S' f f' d1 d3 va vb W) (hb : Below W.heap.size W W') : Twn Z S S' f f' d1 d3 va vb W' := fun e => by
  obtain ⟨g, c, h1, h2, h3, h4⟩ := h e
  refine ⟨g, c, h1, h2.nxt hb, h3, fun e' => ?_⟩
  obtain ⟨g', c', k1, k2, k3, k4⟩ := h4 e'
  exact ⟨g', c', k1, k2.nxt hb, k3, k4⟩
theorem Twn.far {p : Nat} {t : TypeId} {cs : Array Value} (h : Twn Z S S' f f' d1 d3 va vb W) (hB : Blk W p t cs) (ht : t ≠ 27) (hb : ∀ k, k ≠ p → W'.heap[k]? = W.heap[k]?) : Twn Z S S' f f' d1 d3 va vb W' := fun e => by
  obtain ⟨g, c, h1, h2, h3, h4⟩ := h e
  refine ⟨g, c, h1, h2.far hb (h2.ne_ hB ht), h3, fun e' => ?_⟩
  obtain ⟨g', c', k1, k2, k3, k4⟩ := h4 e'
  exact ⟨g', c', k1, k2.far hb (k2.ne_ hB ht), k3, k4⟩
theorem Twn.first {g c : Nat} (ho : OwnS W S g) (hZ : Z ≤ g) (h3 : d3 = false) : Twn Z S S' f f' true d3 (f g c) vb W := fun _ => ⟨g, c, rfl, ho, hZ, fun e => by rw [h3] at e; cases e⟩
theorem Twn.second {g' c' : Nat} (h : Twn Z S S' f f' true false va vb W) (hb : Below W.heap.size W W') (ho : OwnS W' S' g') (hZ : Z ≤ g') (hg : W.heap.size ≤ g') : Twn Z S S' f f' true true va (f' g' c') W' := fun _ => by
  obtain ⟨g, c, h1, h2, h3, h4⟩ := h rfl
  exact ⟨g, c, h1, h2.nxt hb, h3, fun _ => ⟨g', c', rfl, ho, hZ, by have := h2.lt; omega⟩⟩
end
theorem rest_sets1 (w : World) (p : Addr) (x : Value) : (w.setCell p x).os = w.os ∧ (w.setCell p x).tape = w.tape ∧ (w.setCell p x).output = w.output ∧ w.heap.size ≤ (w.setCell p x).heap.size :=
  ⟨rfl, rfl, rfl, by simp [World.setCell]⟩
theorem rest_then {a b c : World} (h : b.os = a.os ∧ b.tape = a.tape ∧ b.output = a.output ∧ a.heap.size ≤ b.heap.size) (k : c.os = b.os ∧ c.tape = b.tape ∧ c.output = b.output ∧ b.heap.size ≤ c.heap.size) : c.os = a.os ∧ c.tape = a.tape ∧ c.output = a.output ∧ a.heap.size ≤ c.heap.size :=
  ⟨k.1.trans h.1, k.2.1.trans h.2.1, k.2.2.1.trans h.2.2.1, Nat.le_trans h.2.2.2 k.2.2.2⟩
theorem rest_sets5 (w : World) (p0 p1 p2 p3 p4 : Addr) (x0 x1 x2 x3 x4 : Value) : (((((w.setCell p0 x0).setCell p1 x1).setCell p2 x2).setCell p3 x3).setCell p4 x4).os = w.os ∧ (((((w.setCell p0 x0).setCell p1 x1).setCell p2 x2).setCell p3 x3).setCell p4 x4).tape = w.tape ∧ (((((w.setCell p0 x0).setCell p1 x1).setCell p2 x2).setCell p3 x3).setCell p4 x4).output = w.output ∧ w.heap.size ≤ (((((w.setCell p0 x0).setCell p1 x1).setCell p2 x2).setCell p3 x3).setCell p4 x4).heap.size :=
  rest_then (rest_sets4 w p0 p1 p2 p3 x0 x1 x2 x3) (rest_sets1 _ p4 x4)
theorem rest_sets3 (w : World) (p0 p1 p2 : Addr) (x0 x1 x2 : Value) : (((w.setCell p0 x0).setCell p1 x1).setCell p2 x2).os = w.os ∧ (((w.setCell p0 x0).setCell p1 x1).setCell p2 x2).tape = w.tape ∧ (((w.setCell p0 x0).setCell p1 x1).setCell p2 x2).output = w.output ∧ w.heap.size ≤ (((w.setCell p0 x0).setCell p1 x1).setCell p2 x2).heap.size :=
  ⟨rfl, rfl, rfl, by simp [World.setCell]⟩
theorem frozen5w {w : World} {b : Nat} {t : TypeId} {v0 v1 v2 v3 v4 : Value} (h : Blk w b t #[v0, v1, v2, v3, v4]) : w.frozen? ⟨b, 0, none⟩ = false ∧ w.frozen? ⟨b, 1, none⟩ = false ∧ w.frozen? ⟨b, 2, none⟩ = false ∧ w.frozen? ⟨b, 3, none⟩ = false ∧ w.frozen? ⟨b, 4, none⟩ = false := ⟨h.frozen 0, h.frozen 1, h.frozen 2, h.frozen 3, h.frozen 4⟩

end Go.Proofs.Ytbdlfaclakppgaa
/-
MoveRows: what is between its two calls; how the lists and the tables fit. Conditions: as each says.
-/
set_option linter.unusedVariables false
set_option linter.unusedSimpArgs false
set_option linter.unnecessarySimpa false
namespace Go.Proofs.Ytbdlfaclakppgaa
open Go.RowKit

theorem held13 {w W w' : World} {b0 o0 b1 o1 b2 o2 b3 o3 b4 o4 b5 o5 b6 o6 b7 o7 b8 o8 b9 o9 b10 o10 b11 o11 b12 o12 : Nat} {v0 v1 v2 v3 v4 v5 v6 v7 v8 v9 v10 v11 v12 : Value} (h : W.cell? ⟨b0, o0, none⟩ = some v0 ∧ W.cell? ⟨b1, o1, none⟩ = some v1 ∧ W.cell? ⟨b2, o2, none⟩ = some v2 ∧ W.cell? ⟨b3, o3, none⟩ = some v3 ∧ W.cell? ⟨b4, o4, none⟩ = some v4 ∧ W.cell? ⟨b5, o5, none⟩ = some v5 ∧ W.cell? ⟨b6, o6, none⟩ = some v6 ∧ W.cell? ⟨b7, o7, none⟩ = some v7 ∧ W.cell? ⟨b8, o8, none⟩ = some v8 ∧ W.cell? ⟨b9, o9, none⟩ = some v9 ∧ W.cell? ⟨b10, o10, none⟩ = some v10 ∧ W.cell? ⟨b11, o11, none⟩ = some v11 ∧ W.cell? ⟨b12, o12, none⟩ = some v12 ∧ Below w.heap.size w W) (hb : Below W.heap.size W w') :
    w'.cell? ⟨b0, o0, none⟩ = some v0 ∧ w'.cell? ⟨b1, o1, none⟩ = some v1 ∧ w'.cell? ⟨b2, o2, none⟩ = some v2 ∧ w'.cell? ⟨b3, o3, none⟩ = some v3 ∧ w'.cell? ⟨b4, o4, none⟩ = some v4 ∧ w'.cell? ⟨b5, o5, none⟩ = some v5 ∧ w'.cell? ⟨b6, o6, none⟩ = some v6 ∧ w'.cell? ⟨b7, o7, none⟩ = some v7 ∧ w'.cell? ⟨b8, o8, none⟩ = some v8 ∧ w'.cell? ⟨b9, o9, none⟩ = some v9 ∧ w'.cell? ⟨b10, o10, none⟩ = some v10 ∧ w'.cell? ⟨b11, o11, none⟩ = some v11 ∧ w'.cell? ⟨b12, o12, none⟩ = some v12 ∧ Below w.heap.size w w' :=
  ⟨cell_below h.1 hb, cell_below h.2.1 hb, cell_below h.2.2.1 hb, cell_below h.2.2.2.1 hb, cell_below h.2.2.2.2.1 hb, cell_below h.2.2.2.2.2.1 hb, cell_below h.2.2.2.2.2.2.1 hb, cell_below h.2.2.2.2.2.2.2.1 hb, cell_below h.2.2.2.2.2.2.2.2.1 hb, cell_below h.2.2.2.2.2.2.2.2.2.1 hb, cell_below h.2.2.2.2.2.2.2.2.2.2.1 hb, cell_below h.2.2.2.2.2.2.2.2.2.2.2.1 hb, cell_below h.2.2.2.2.2.2.2.2.2.2.2.2.1 hb, h.2.2.2.2.2.2.2.2.2.2.2.2.2.trans (hb.mono h.2.2.2.2.2.2.2.2.2.2.2.2.2.size)⟩
theorem blk_ne {W : World} {p g : Nat} {t t' : TypeId} {cs cs' : Array Value} (h : Blk W p t cs) (h' : Blk W g t' cs') (ht : t ≠ t') : p ≠ g := by
  rintro rfl
  unfold Blk at h h'
  rw [h] at h'
  injection h' with h'
  injection h' with _ e _
  exact ht e
/-- Two lists of the call's own, the one changed or not yet, and the other. -/
def Both (W0 : World) (l : List Nat) (F1 F2 : List Nat → Prop) (g1 g2 : Nat) (d3 d6 : Bool) (W : World) : Prop :=
  ∃ la lb, Own W g1 la ∧ Own W g2 lb ∧ (if d3 = true then F1 la else la = l) ∧ (if d6 = true then F2 lb else lb = l) ∧ Chg [g1, g2] W0 W
section
variable {W0 W W' : World} {l : List Nat} {F1 F2 : List Nat → Prop} {g1 g2 : Nat} {d3 d6 : Bool}
theorem Both.start (h1 : Own W g1 l) (h2 : Own W g2 l) (hc : Chg [g1, g2] W0 W) : Both W0 l F1 F2 g1 g2 false false W := ⟨l, l, h1, h2, rfl, rfl, hc⟩
theorem Both.first (h : Both W0 l F1 F2 g1 g2 false d6 W) (hne : g1 ≠ g2) {l' : List Nat} (ho : Own W' g1 l') (hF : F1 l') (hc : Chg [g1] W W') : Both W0 l F1 F2 g1 g2 true d6 W' := by
  obtain ⟨la, lb, h1, h2, h3, h4, h5⟩ := h
  exact ⟨l', lb, ho, hc.own (by simp; exact fun e => hne e.symm) h2, hF, h4, h5.trans (hc.mono (by simp))⟩
theorem Both.second (h : Both W0 l F1 F2 g1 g2 d3 false W) (hne : g1 ≠ g2) {l' : List Nat} (ho : Own W' g2 l') (hF : F2 l') (hc : Chg [g2] W W') : Both W0 l F1 F2 g1 g2 d3 true W' := by
  obtain ⟨la, lb, h1, h2, h3, h4, h5⟩ := h
  exact ⟨la, l', hc.own (by simp; exact hne) h1, ho, h3, hF, h5.trans (hc.mono (by simp))⟩
theorem Both.one (h : Both W0 l F1 F2 g1 g2 false d6 W) : Own W g1 l := by
  obtain ⟨la, lb, h1, h2, h3, h4, h5⟩ := h
  have h3 : la = l := h3
  subst h3; exact h1
theorem Both.two (h : Both W0 l F1 F2 g1 g2 d3 false W) : Own W g2 l := by
  obtain ⟨la, lb, h1, h2, h3, h4, h5⟩ := h
  have h4 : lb = l := h4
  subst h4; exact h2
theorem Both.chg (h : Both W0 l F1 F2 g1 g2 d3 d6 W) : Chg [g1, g2] W0 W := by
  obtain ⟨la, lb, h1, h2, h3, h4, h5⟩ := h
  exact h5
end
/-- A list of the caller's is as it was. -/
theorem chg_row {w W0 W : World} {G : List Nat} {B : Option Addr} {xs : List Value} (h : Row w B xs) (hb : Below w.heap.size w W0) (hc : Chg G W0 W) (hG : ∀ g ∈ G, w.heap.size ≤ g) : Row W B xs := by
  rcases h with rfl | ⟨b, o, rfl, h1⟩
  · exact .inl rfl
  · cases xs with
    | nil => exact .inl rfl
    | cons x xs =>
      have hlt := block_lt (h1 0 x rfl)
      refine hc.row (fun b' o' e => ?_) ((show Row w (some ⟨b, o, none⟩) (x :: xs) from .inr ⟨b, o, rfl, h1⟩).below hb)
      injection e with e; injection e with e _
      subst e
      intro hg
      have := hG _ hg
      omega

theorem tab_get {l T : List Nat} {o R C L N a b : Nat} (h : Tab l o R C L N T) (hN : R * C = N) (ha : a < R) (hb : b < C) : T.getD (a * C + b) 0 = l.getD (o + a + b * L) 0 :=
  h.2 a b ha hb (by rw [← hN]; exact tab_lt ha hb)
/-- The table as it was: the list as it was. -/
theorem fit_same {l T l' : List Nat} {o R C L N : Nat} (h : Tab l o R C L N T) (hN : R * C = N) (hi : Img l o R C L (fun a b => T.getD (a * C + b) 0) l') : l = l' :=
  (Img.refl l o R C L).uniq hi fun a ha b hb => (tab_get h hN ha hb).symm
theorem fit_half {l T T' m l' : List Nat} {o R C L N i j : Nat} (h : Tab l o R C L N T) (hN : R * C = N) (hi : i < R) (hj : j < R) (hh : Half T i j R C C T') (hm : Img l o R C L (fun a b => l.getD (o + sw i j a + b * L) 0) m)
    (hl : Img l o R C L (fun a b => T'.getD (a * C + b) 0) l') : m = l' :=
  hm.uniq hl fun a ha b hb => by rw [hh.2 a ha b hb, if_pos hb, tab_get h hN (sw_lt hi hj ha) hb]
theorem fit_prm {l T T' m l' : List Nat} {o R C L N q : Nat} {zs : List Int} (h : Tab l o R C L N T) (hN : R * C = N) (hz : OrdOk R zs q) (hq : q ≤ zs.length) (hh : Prm T zs R C q T') (hm : Img l o R C L (fun a b => l.getD (o + prm zs q a + b * L) 0) m)
    (hl : Img l o R C L (fun a b => T'.getD (a * C + b) 0) l') : m = l' :=
  hm.uniq hl fun a ha b hb => by rw [hh.2 a ha b hb, tab_get h hN (prm_lt hz hq ha) hb]
theorem wds_img {l l' : List Nat} {o R C L : Nat} {f : Nat → Nat} (h : Wds l) (hi : Img l o R C L (fun a b => l.getD (o + f a + b * L) 0) l') : Wds l' := by
  have hw : ∀ k, l.getD k 0 < 18446744073709551616 := fun k => by
    rcases Nat.lt_or_ge k l.length with h1 | h1
    · rw [getD_of_lt h1]; exact h.at_ k h1
    · rw [getD_of_le h1]; omega
  intro x hx
  obtain ⟨k, hk, rfl⟩ := List.mem_iff_getElem.1 hx
  rw [← getD_of_lt hk]
  by_cases hp : ∃ a, a < R ∧ ∃ b, b < C ∧ k = o + a + b * L
  · obtain ⟨a, ha, b, hb, rfl⟩ := hp
    rw [hi.2.1 a ha b hb]; exact hw _
  · rw [hi.2.2 k (fun a ha b hb e => hp ⟨a, ha, b, hb, e⟩)]; exact hw _
end Go.Proofs.Ytbdlfaclakppgaa
/-
Norms: the document's columns and rows, its One, Inf, Most, Max. Conditions: as each says.
-/
set_option linter.unusedVariables false
set_option linter.unusedSimpArgs false
set_option linter.unnecessarySimpa false
namespace Go.Proofs.Ytbdlfaclakppgaa
open Go.RowKit
attribute [local go_sem ↓] Go.wp_at_zero Go.wp_at_succ

/-- The call returned a list of n numbers of which this holds. -/
def RetN (R : Nat → Nat → Prop) (n : Nat) (w : World) (e : Ending) (w' : World) : Prop :=
  ∃ B d m, e = .returned (.slice B n d) ∧ m.length = n ∧ (∀ q, q < n → R q (m.getD q 0)) ∧ Row w' B (f64s m) ∧ Below w.heap.size w w'
theorem NrQ_all {R : Nat → Nat → Prop} {L : List Nat} {q r : Nat} (hl : L.length = q) (h : ∀ j, j < q → R j (L.getD j 0)) (hr : R q r) : ∀ j, j < q + 1 → R j ((L ++ [r]).getD j 0) := by
  intro j hj
  by_cases h1 : j < q
  · have : (L ++ [r]).getD j 0 = L.getD j 0 := by simp [List.getD, List.getElem?_append_left (show j < L.length by omega)]
    rw [this]; exact h j h1
  · obtain rfl : j = q := by omega
    have : (L ++ [r]).getD j 0 = r := by simp [List.getD, ← hl]
    rw [this]; exact hr
theorem nrat_any (R C gT N cT : Nat) (T : List Nat) (a b : Nat) (w : World) (hT : Row w (some ⟨gT, 0, none⟩) (f64s T)) (hTl : T.length = N) (hN : N < 1048576) (hab : a * C + b < N) :
    Calls Try.prog 44 #[.agg #[.int .i64 R, .int .i64 C, .slice (some ⟨gT, 0, none⟩) N cT], .int .i64 (a : Int), .int .i64 (b : Int)] w fun e w' => e = .returned (.float .f64 (T.getD (a * C + b) 0)) ∧ Below w.heap.size w w' := by
  have hPl : a * C + b < T.length := by rw [hTl]; exact hab
  obtain ⟨gb, x, hgx, _, hcell0⟩ := hT.at_ (f64s_get T _ hPl)
  injection hgx with hgx
  injection hgx with hg1 hg2
  subst hg1
  subst hg2
  have hv : T.getD (a * C + b) 0 = T[a * C + b] := getD_of_lt hPl
  rw [hv]
  have HB := Lib.hid ((Below.refl w.heap.size w).alloc (Nat.le_refl _) (.cells #[.int .i64 R, .int .i64 C, .slice (some ⟨gT, 0, none⟩) N cT] 32))
  have hcell := cell_below hcell0 HB.out
  generalize T[a * C + b] = v at *
  obtain ⟨p, hp⟩ : ∃ p, a * C = p := ⟨_, rfl⟩
  obtain ⟨P, hPd⟩ : ∃ P, p + b = P := ⟨_, rfl⟩
  have e1 : ((a : Int) * (C : Int)) = (p : Int) := by rw [← hp]; simp
  have e2 : (p : Int) + (b : Int) = (P : Int) := by rw [← hPd]; simp
  have hPN : P < N := by rw [← hPd, ← hp]; exact hab
  have HW := Lib.hid (wrap3 (o := b) (a := p) (P := P) (by omega) (by rw [← hPd, Nat.add_comm]))
  rw [hp, hPd, Nat.zero_add] at hcell
  have b1 : (P : Int) < (N : Int) := by omega
  have b0 : (0 : Int) ≤ (P : Int) := by omega
  have b2 := hPN
  clear hPl hcell0 hv hp hPd hPN hT hTl hab
  obtain ⟨u1, u2, u3, u4⟩ := HW.out
  go_enter Try.func44, Try.ntmps44
  go_wp2_with fail
  go_ret
  exact ⟨rfl, HB.out⟩

set_option maxRecDepth 100000 in
set_option maxHeartbeats 1000000 in
theorem nrcolL_any (R C gT N cT : Nat) (T : List Nat) (b : Nat) (w : World) (hT : Row w (some ⟨gT, 0, none⟩) (f64s T)) (hTl : T.length = N) (hN : N < 1048576) (hRC : R * C = N) (hb : b < C) (hR : R < 1048576) :
    Calls Try.prog 36 #[.agg #[.int .i64 R, .int .i64 C, .slice (some ⟨gT, 0, none⟩) N cT], .int .i64 (b : Int)] w (RetN (fun q r => r = T.getD (q * C + b) 0) R w) := by
  obtain ⟨i0, hi, hz0, hz1, hz2⟩ := fi0
  have HTr := Lib.hid hT
  have HAt0 := Lib.hid (fun W (q : Nat) (hq : q < R) (h : Row W (some ⟨gT, 0, none⟩) (f64s T)) => nrat_any R C gT N cT T q b W h hTl hN (by rw [← hRC]; exact tab_lt hq hb))
  clear hT hTl hN hRC hb
  go_enter Try.func36, Try.ntmps36
  have HZ := Lib.hid (Blk.new w 32 #[.int .i64 R, .int .i64 C, .slice (some ⟨gT, 0, none⟩) N cT])
  have hb0 : Below w.heap.size w (w.alloc (.cells #[.int .i64 R, .int .i64 C, .slice (some ⟨gT, 0, none⟩) N cT] 32)) := (Below.refl w.heap.size w).alloc (Nat.le_refl _) (.cells #[.int .i64 R, .int .i64 C, .slice (some ⟨gT, 0, none⟩) N cT] 32)
  have HTr1 := Lib.hid (HTr.out.below hb0)
  clear HTr
  have HB0 := Lib.hid hb0
  clear hb0
  go_wp2_with fail
  generalize hw1 : w.alloc (.cells #[.int .i64 R, .int .i64 C, .slice (some ⟨gT, 0, none⟩) N cT] 32) = w1 at *
  have Hz := Lib.hid (show w.heap.size < w1.heap.size from HZ.out.lt)
  generalize hzt : w.heap.size = zt at *
  have Hzt := Lib.hid hzt
  clear hw1 hzt
  go_loopw [5, 6] (fun out i wr => ∃ (q : Nat) (L : List Nat), q ≤ R ∧ i = .int .i64 q ∧ Hid (L.length = q ∧ ∀ j, j < q → (fun q r => r = T.getD (q * C + b) 0) j (L.getD j 0)) ∧ wr.ownsRow w1.heap.size 27 1 out q (f64s L) ∧ Below w1.heap.size w1 wr) (fun _ i _ => R - (intOf i).toNat)
  case atStart => exact ⟨0, [], Nat.zero_le _, rfl, Lib.hid ⟨rfl, fun j h => by omega⟩, World.ownsRow_nil _ _ _ _, Below.refl _ _⟩
  case round =>
    obtain ⟨q, L, hq, rfl, HL, hown, hbl⟩ := hrel
    have HBl := Lib.hid hbl
    have HOw0 := Lib.hid hown
    clear hown hbl
    obtain ⟨t0, t1, t2⟩ := cells3v (HZ.out.below HBl.out HZ.out.lt)
    by_cases hlt : q < R
    · have hqc : (q : Int) < (R : Int) := by omega
      have hq1 : q + 1 ≤ 1048576 := by omega
      have HAt := Lib.hid (HAt0.out wr q hlt (HTr1.out.below HBl.out))
      have HR := Lib.hid (show (T.getD (q * C + b) 0) = T.getD (q * C + b) 0 from rfl)
      obtain ⟨v, hv⟩ : ∃ v, T.getD (q * C + b) 0 = v := ⟨_, rfl⟩
      have HRv := Lib.hid hv
      rw [hv] at HAt
      clear hv HR
      go_wp2_with fail
      refine HAt.out.mono ?_
      rintro e wt ⟨rfl, hbt⟩
      have HR := Lib.hid HRv.out.symm
      have HOwW := Lib.hid (ownsRow_below HOw0.out hbt)
      have HBlW := Lib.hid (below_nx HBl.out hbt)
      clear hbt t0 t1 t2
      have HN := Lib.hid (Blk.new wt 27 #[.float .f64 v])
      have HOw2 := Lib.hid (HOwW.out.alloc (.cells #[.float .f64 v] 27))
      go_wp2_with (at_builtin; refine wpList_append_own _ rfl _ _ 22 rfl w1.heap.size 27 i0 (.float .f64 0) 1 8 Try.underlying22 hi hz0 hz1 hz2 rfl (by decide) _ q (f64s L) rfl HOw2.out ⟨wt.heap.size, 0, none⟩ 1 1 [.float .f64 v] rfl rfl ?c1 (by intro u hu; simp at hu; subst hu; rfl) ?c3 ?c4 ?c5 ?_)
      case c1 =>
        intro j u hj
        match j, hj with
        | 0, hj =>
          have : u = .float .f64 v := by simpa using hj.symm
          subst this
          exact HN.out.cell 0
        | j + 1, hj => simp at hj
      case c3 => unfold maxLen; omega
      case c4 => omega
      case c5 => (try simp); have := HBlW.out.size; omega
      intro v' w' hown' hgrow _
      have HOw3 := Lib.hid (show w'.ownsRow w1.heap.size 27 1 v' (q + 1) (f64s (L ++ [v])) by rw [f64s_snoc]; exact hown')
      have HBl3 := Lib.hid ((HBlW.out.alloc HBlW.out.size (.cells #[.float .f64 v] 27)).grown hgrow (by simp; have := HBlW.out.size; omega) (fun k hk => by have := (HOw2.out.lt k hk).1; omega))
      clear hown' hgrow
      go_wp2_with fail
      go_roundw
      case rel => exact ⟨q + 1, L ++ [v], by omega, by go_num, Lib.hid ⟨by simp [HL.out.1], NrQ_all (R := (fun q r => r = T.getD (q * C + b) 0)) HL.out.1 HL.out.2 HR.out⟩, HOw3.out, HBl3.out⟩
      case measure => simp [intOf]; omega
    · obtain rfl : q = R := by omega
      have hqc : ¬ (q : Int) < (q : Int) := by omega
      obtain ⟨B9, d9, rfl, hrow⟩ := own_row HOw0.out HL.out.1.symm
      have HRow := Lib.hid hrow
      clear hrow
      go_wp2_with fail
      go_ret
      exact ⟨B9, d9, L, rfl, HL.out.1, HL.out.2, HRow.out, below_nx (by rw [Hzt.out]; exact HB0.out) HBl.out⟩

set_option maxRecDepth 100000 in
set_option maxHeartbeats 1000000 in
theorem nrrowL_any (R C gT N cT : Nat) (T : List Nat) (b : Nat) (w : World) (hT : Row w (some ⟨gT, 0, none⟩) (f64s T)) (hTl : T.length = N) (hN : N < 1048576) (hRC : R * C = N) (hb : b < R) (hC : C < 1048576) :
    Calls Try.prog 38 #[.agg #[.int .i64 R, .int .i64 C, .slice (some ⟨gT, 0, none⟩) N cT], .int .i64 (b : Int)] w (RetN (fun q r => r = T.getD (b * C + q) 0) C w) := by
  obtain ⟨i0, hi, hz0, hz1, hz2⟩ := fi0
  have HTr := Lib.hid hT
  have HAt0 := Lib.hid (fun W (q : Nat) (hq : q < C) (h : Row W (some ⟨gT, 0, none⟩) (f64s T)) => nrat_any R C gT N cT T b q W h hTl hN (by rw [← hRC]; exact tab_lt hb hq))
  clear hT hTl hN hRC hb
  go_enter Try.func38, Try.ntmps38
  have HZ := Lib.hid (Blk.new w 32 #[.int .i64 R, .int .i64 C, .slice (some ⟨gT, 0, none⟩) N cT])
  have hb0 : Below w.heap.size w (w.alloc (.cells #[.int .i64 R, .int .i64 C, .slice (some ⟨gT, 0, none⟩) N cT] 32)) := (Below.refl w.heap.size w).alloc (Nat.le_refl _) (.cells #[.int .i64 R, .int .i64 C, .slice (some ⟨gT, 0, none⟩) N cT] 32)
  have HTr1 := Lib.hid (HTr.out.below hb0)
  clear HTr
  have HB0 := Lib.hid hb0
  clear hb0
  go_wp2_with fail
  generalize hw1 : w.alloc (.cells #[.int .i64 R, .int .i64 C, .slice (some ⟨gT, 0, none⟩) N cT] 32) = w1 at *
  have Hz := Lib.hid (show w.heap.size < w1.heap.size from HZ.out.lt)
  generalize hzt : w.heap.size = zt at *
  have Hzt := Lib.hid hzt
  clear hw1 hzt
  go_loopw [5, 6] (fun out i wr => ∃ (q : Nat) (L : List Nat), q ≤ C ∧ i = .int .i64 q ∧ Hid (L.length = q ∧ ∀ j, j < q → (fun q r => r = T.getD (b * C + q) 0) j (L.getD j 0)) ∧ wr.ownsRow w1.heap.size 27 1 out q (f64s L) ∧ Below w1.heap.size w1 wr) (fun _ i _ => C - (intOf i).toNat)
  case atStart => exact ⟨0, [], Nat.zero_le _, rfl, Lib.hid ⟨rfl, fun j h => by omega⟩, World.ownsRow_nil _ _ _ _, Below.refl _ _⟩
  case round =>
    obtain ⟨q, L, hq, rfl, HL, hown, hbl⟩ := hrel
    have HBl := Lib.hid hbl
    have HOw0 := Lib.hid hown
    clear hown hbl
    obtain ⟨t0, t1, t2⟩ := cells3v (HZ.out.below HBl.out HZ.out.lt)
    by_cases hlt : q < C
    · have hqc : (q : Int) < (C : Int) := by omega
      have hq1 : q + 1 ≤ 1048576 := by omega
      have HAt := Lib.hid (HAt0.out wr q hlt (HTr1.out.below HBl.out))
      have HR := Lib.hid (show (T.getD (b * C + q) 0) = T.getD (b * C + q) 0 from rfl)
      obtain ⟨v, hv⟩ : ∃ v, T.getD (b * C + q) 0 = v := ⟨_, rfl⟩
      have HRv := Lib.hid hv
      rw [hv] at HAt
      clear hv HR
      go_wp2_with fail
      refine HAt.out.mono ?_
      rintro e wt ⟨rfl, hbt⟩
      have HR := Lib.hid HRv.out.symm
      have HOwW := Lib.hid (ownsRow_below HOw0.out hbt)
      have HBlW := Lib.hid (below_nx HBl.out hbt)
      clear hbt t0 t1 t2
      have HN := Lib.hid (Blk.new wt 27 #[.float .f64 v])
      have HOw2 := Lib.hid (HOwW.out.alloc (.cells #[.float .f64 v] 27))
      go_wp2_with (at_builtin; refine wpList_append_own _ rfl _ _ 22 rfl w1.heap.size 27 i0 (.float .f64 0) 1 8 Try.underlying22 hi hz0 hz1 hz2 rfl (by decide) _ q (f64s L) rfl HOw2.out ⟨wt.heap.size, 0, none⟩ 1 1 [.float .f64 v] rfl rfl ?c1 (by intro u hu; simp at hu; subst hu; rfl) ?c3 ?c4 ?c5 ?_)
      case c1 =>
        intro j u hj
        match j, hj with
        | 0, hj =>
          have : u = .float .f64 v := by simpa using hj.symm
          subst this
          exact HN.out.cell 0
        | j + 1, hj => simp at hj
      case c3 => unfold maxLen; omega
      case c4 => omega
      case c5 => (try simp); have := HBlW.out.size; omega
      intro v' w' hown' hgrow _
      have HOw3 := Lib.hid (show w'.ownsRow w1.heap.size 27 1 v' (q + 1) (f64s (L ++ [v])) by rw [f64s_snoc]; exact hown')
      have HBl3 := Lib.hid ((HBlW.out.alloc HBlW.out.size (.cells #[.float .f64 v] 27)).grown hgrow (by simp; have := HBlW.out.size; omega) (fun k hk => by have := (HOw2.out.lt k hk).1; omega))
      clear hown' hgrow
      go_wp2_with fail
      go_roundw
      case rel => exact ⟨q + 1, L ++ [v], by omega, by go_num, Lib.hid ⟨by simp [HL.out.1], NrQ_all (R := (fun q r => r = T.getD (b * C + q) 0)) HL.out.1 HL.out.2 HR.out⟩, HOw3.out, HBl3.out⟩
      case measure => simp [intOf]; omega
    · obtain rfl : q = C := by omega
      have hqc : ¬ (q : Int) < (q : Int) := by omega
      obtain ⟨B9, d9, rfl, hrow⟩ := own_row HOw0.out HL.out.1.symm
      have HRow := Lib.hid hrow
      clear hrow
      go_wp2_with fail
      go_ret
      exact ⟨B9, d9, L, rfl, HL.out.1, HL.out.2, HRow.out, below_nx (by rw [Hzt.out]; exact HB0.out) HBl.out⟩


theorem nrcol_any (R C gT N cT : Nat) (T : List Nat) (b : Nat) (w : World) (hT : Row w (some ⟨gT, 0, none⟩) (f64s T)) (hTl : T.length = N) (hN : N < 1048576) (hRC : R * C = N) (hb : b < C) (hR : R < 1048576) :
    Calls Try.prog 36 #[.agg #[.int .i64 R, .int .i64 C, .slice (some ⟨gT, 0, none⟩) N cT], .int .i64 (b : Int)] w fun e w' => ∃ B d, e = .returned (.slice B R d) ∧ Row w' B (f64s (lst T b C R)) ∧ Below w.heap.size w w' := by
  refine (nrcolL_any R C gT N cT T b w hT hTl hN hRC hb hR).mono ?_
  rintro e w' ⟨B, d, m, h1, h2, h3, h4, h5⟩
  have : m = lst T b C R := ext_getD (by rw [h2, lst_length]) fun j hj => by
    rw [h3 j (by omega), lst_getD T b C (by omega), Nat.add_comm]
  subst this
  exact ⟨B, d, h1, h4, h5⟩
theorem nrrow_any (R C gT N cT : Nat) (T : List Nat) (b : Nat) (w : World) (hT : Row w (some ⟨gT, 0, none⟩) (f64s T)) (hTl : T.length = N) (hN : N < 1048576) (hRC : R * C = N) (hb : b < R) (hC : C < 1048576) :
    Calls Try.prog 38 #[.agg #[.int .i64 R, .int .i64 C, .slice (some ⟨gT, 0, none⟩) N cT], .int .i64 (b : Int)] w fun e w' => ∃ B d, e = .returned (.slice B C d) ∧ Row w' B (f64s (lst T (b * C) 1 C)) ∧ Below w.heap.size w w' := by
  refine (nrrowL_any R C gT N cT T b w hT hTl hN hRC hb hC).mono ?_
  rintro e w' ⟨B, d, m, h1, h2, h3, h4, h5⟩
  have : m = lst T (b * C) 1 C := ext_getD (by rw [h2, lst_length]) fun j hj => by
    rw [h3 j (by omega), lst_getD T (b * C) 1 (by omega), Nat.mul_one]
  subst this
  exact ⟨B, d, h1, h4, h5⟩
theorem lst_wds2 {l : List Nat} (h : Wds l) (o i K : Nat) : Wds (lst l o i K) := by
  intro b hb
  obtain ⟨k, _, rfl⟩ := List.mem_map.1 hb
  exact getD_wds h _

set_option maxRecDepth 100000 in
set_option maxHeartbeats 2000000 in
theorem r10one_any (R C gT N cT : Nat) (T V : List Nat) (w : World) (hT : Row w (some ⟨gT, 0, none⟩) (f64s T)) (hW : Wds T) (hTl : T.length = N) (hN : N < 1048576) (hRC : R * C = N) (hR : R < 1048576) (hC : C < 1048576) (hV : Wds V) (hVq : ∀ q, q < C → R ≠ 0 → asumF (lst T q C R) R = V.getD q 0) :
    Calls Try.prog 14 #[.agg #[.int .i64 R, .int .i64 C, .slice (some ⟨gT, 0, none⟩) N cT]] w fun e w' => ∃ r, e = .returned (.float .f64 r) ∧ Is r (if R = 0 ∨ C = 0 then 0 else gF V C) ∧ Below w.heap.size w w' := by
  obtain ⟨i0, hi, hz0, hz1, hz2⟩ := fi0
  have HTr := Lib.hid hT
  have HCl := Lib.hid (fun W (q : Nat) (hq : q < C) (h : Row W (some ⟨gT, 0, none⟩) (f64s T)) => nrcol_any R C gT N cT T q W h hTl hN hRC hq (by omega))
  have HAs := Lib.hid (fun (B : Option Addr) (d : Nat) W (q : Nat) (hq : q < C) (h0 : R ≠ 0) (h : Row W B (f64s (lst T q C R))) => show Calls Try.prog 18 #[.slice B R d] W fun e w' => ∃ r, e = .returned (.float .f64 r) ∧ Is r (V.getD q 0) ∧ Below W.heap.size W w' from by
    have := rasum_any B R d (lst T q C R) W h (lst_wds2 hW _ _ _) (lst_length _ _ _ _) (by omega)
    rw [hVq q hq h0] at this
    exact this)
  have HGt := Lib.hid (fun (B : Option Addr) (d K : Nat) (L : List Nat) W (hK : K < 1048576) (hL : L.length = K) (hq : ∀ j, j < K → Is (L.getD j 0) (V.getD j 0)) (h : Row W B (f64s L)) => show Calls Try.prog 37 #[.slice B K d] W fun e w' => ∃ r, e = .returned (.float .f64 r) ∧ Is r (gF V K) ∧ Below W.heap.size W w' from by
    have hLw : Wds L := by
      intro b hb
      obtain ⟨k, hk, rfl⟩ := List.mem_iff_getElem.1 hb
      rw [← getD_of_lt hk]
      exact (hq k (by omega)).lt
    refine (rgreat5_any B K d L W h hLw hL hK).mono ?_
    rintro e w' ⟨r, rfl, hr, hb⟩
    exact ⟨r, rfl, hr.trans (gF_alike hLw K hq hV), hb⟩)
  obtain ⟨M, hM⟩ : ∃ M, (if R = 0 then 0 else C) = M := ⟨_, rfl⟩
  have hM1 : ∀ q, q < M → q < C ∧ R ≠ 0 := fun q hq => by
    by_cases h : R = 0
    · rw [if_pos h] at hM; omega
    · rw [if_neg h] at hM; exact ⟨by omega, h⟩
  have hM2 : ∀ q, ¬ q < M → q ≤ M → ¬ q < C ∨ R = 0 := fun q hq _ => by
    by_cases h : R = 0
    · exact .inr h
    · rw [if_neg h] at hM; exact .inl (by omega)
  have hZ : gF V M = if R = 0 ∨ C = 0 then 0 else gF V C := by
    by_cases h : R = 0
    · rw [if_pos h] at hM; rw [if_pos (by omega), ← hM]; rfl
    · rw [if_neg h] at hM
      subst hM
      by_cases h2 : C = 0
      · rw [if_pos (by omega), h2]; rfl
      · rw [if_neg (by omega)]
  rw [← hZ]
  have hMb : M < 1048576 := by
    by_cases h : R = 0
    · rw [if_pos h] at hM; omega
    · rw [if_neg h] at hM; omega
  have HM1 := Lib.hid hM1
  have HM2 := Lib.hid hM2
  clear hT hTl hN hRC hR hC hVq hW hV hM hM1 hM2 hZ
  go_enter Try.func14, Try.ntmps14
  have HZ := Lib.hid (Blk.new w 32 #[.int .i64 R, .int .i64 C, .slice (some ⟨gT, 0, none⟩) N cT])
  have hb0 : Below w.heap.size w (w.alloc (.cells #[.int .i64 R, .int .i64 C, .slice (some ⟨gT, 0, none⟩) N cT] 32)) := (Below.refl w.heap.size w).alloc (Nat.le_refl _) (.cells #[.int .i64 R, .int .i64 C, .slice (some ⟨gT, 0, none⟩) N cT] 32)
  have HTr1 := Lib.hid (HTr.out.below hb0)
  clear HTr
  have HB0 := Lib.hid hb0
  clear hb0
  go_wp2_with fail
  generalize hw1 : w.alloc (.cells #[.int .i64 R, .int .i64 C, .slice (some ⟨gT, 0, none⟩) N cT] 32) = w1 at *
  have Hz := Lib.hid (show w.heap.size < w1.heap.size from HZ.out.lt)
  generalize hzt : w.heap.size = zt at *
  have Hzt := Lib.hid hzt
  clear hw1 hzt
  go_loopw [3, 4] (fun out i wr => ∃ (q : Nat) (L : List Nat), q ≤ M ∧ i = .int .i64 q ∧ Hid (L.length = q ∧ ∀ j, j < q → (fun q r => Is r (V.getD q 0)) j (L.getD j 0)) ∧ wr.ownsRow w1.heap.size 27 1 out q (f64s L) ∧ Below w1.heap.size w1 wr) (fun _ i _ => M - (intOf i).toNat)
  case atStart => exact ⟨0, [], Nat.zero_le _, rfl, Lib.hid ⟨rfl, fun j h => by omega⟩, World.ownsRow_nil _ _ _ _, Below.refl _ _⟩
  case round =>
    obtain ⟨q, L, hq, rfl, HL, hown, hbl⟩ := hrel
    have HBl := Lib.hid hbl
    have HOw0 := Lib.hid hown
    clear hown hbl
    obtain ⟨t0, t1, t2⟩ := cells3v (HZ.out.below HBl.out HZ.out.lt)
    by_cases hlt : q < M
    · have hqM := HM1.out q hlt
      have hqc : decide (q < C) = true := decide_eq_true hqM.1
      have hqi : (q : Int) < (C : Int) := by omega
      have hoc : decide (0 < R) = true := decide_eq_true (by omega)
      have hoi : (0 : Int) < (R : Int) := by omega
      have hq1 : q + 1 ≤ 1048576 := by omega
      have HClq := Lib.hid (HCl.out wr q hqM.1 (HTr1.out.below HBl.out))
      have HAq := Lib.hid (fun B d W h => HAs.out B d W q hqM.1 hqM.2 h)
      clear hqM
      go_wp2_with fail
      refine HClq.out.mono ?_
      rintro e wa ⟨B, d, rfl, hRow, hba⟩
      have HRw := Lib.hid hRow
      have HOwA := Lib.hid (ownsRow_below HOw0.out hba)
      have HBlA := Lib.hid (below_nx HBl.out hba)
      clear hba hRow t0 t1 t2
      go_wp2_with fail
      refine (HAq.out B d _ HRw.out).mono ?_
      rintro e wt ⟨v, rfl, hv, hbt⟩
      have HR := Lib.hid hv
      have HOwW := Lib.hid (ownsRow_below HOwA.out hbt)
      have HBlW := Lib.hid (below_nx HBlA.out hbt)
      clear hbt hv
      have HN := Lib.hid (Blk.new wt 27 #[.float .f64 v])
      have HOw2 := Lib.hid (HOwW.out.alloc (.cells #[.float .f64 v] 27))
      go_wp2_with (at_builtin; refine wpList_append_own _ rfl _ _ 22 rfl w1.heap.size 27 i0 (.float .f64 0) 1 8 Try.underlying22 hi hz0 hz1 hz2 rfl (by decide) _ q (f64s L) rfl HOw2.out ⟨wt.heap.size, 0, none⟩ 1 1 [.float .f64 v] rfl rfl ?c1 (by intro u hu; simp at hu; subst hu; rfl) ?c3 ?c4 ?c5 ?_)
      case c1 =>
        intro j u hj
        match j, hj with
        | 0, hj =>
          have : u = .float .f64 v := by simpa using hj.symm
          subst this
          exact HN.out.cell 0
        | j + 1, hj => simp at hj
      case c3 => unfold maxLen; omega
      case c4 => omega
      case c5 => (try simp); have := HBlW.out.size; omega
      intro v' w' hown' hgrow _
      have HOw3 := Lib.hid (show w'.ownsRow w1.heap.size 27 1 v' (q + 1) (f64s (L ++ [v])) by rw [f64s_snoc]; exact hown')
      have HBl3 := Lib.hid ((HBlW.out.alloc HBlW.out.size (.cells #[.float .f64 v] 27)).grown hgrow (by simp; have := HBlW.out.size; omega) (fun k hk => by have := (HOw2.out.lt k hk).1; omega))
      clear hown' hgrow
      go_wp2_with fail
      go_roundw
      case rel => exact ⟨q + 1, L ++ [v], by omega, by go_num, Lib.hid ⟨by simp [HL.out.1], NrQ_all (R := fun q r => Is r (V.getD q 0)) HL.out.1 HL.out.2 HR.out⟩, HOw3.out, HBl3.out⟩
      case measure => simp [intOf]; omega
    · have hrow := own_row HOw0.out HL.out.1.symm
      have hend := HM2.out q hlt hq
      obtain ⟨B9, d9, rfl, hrow⟩ := hrow
      have HRow := Lib.hid hrow
      clear hrow
      obtain rfl : q = M := by omega
      by_cases hqc0 : q < C
      · have hqc : decide (q < C) = true := decide_eq_true hqc0
        have hqi : (q : Int) < (C : Int) := by omega
        obtain h0 : R = 0 := by rcases hend with h | h; exact absurd hqc0 h; exact h
        have hoc : decide (0 < R) = false := decide_eq_false (by omega)
        have hoi : ¬ (0 : Int) < (R : Int) := by omega
        clear hend hqc0 h0
        go_wp2_with fail
        refine (HGt.out B9 d9 q L _ (by omega) HL.out.1 HL.out.2 HRow.out).mono ?_
        rintro e w5 ⟨r, rfl, hr, hb⟩
        have HR := Lib.hid (And.intro hr (below_nx HBl.out hb))
        clear hr hb
        go_wp2_with fail
        go_ret
        exact ⟨r, rfl, HR.out.1, below_nx (by rw [Hzt.out]; exact HB0.out) HR.out.2⟩
      · have hqc : decide (q < C) = false := decide_eq_false hqc0
        have hqi : ¬ (q : Int) < (C : Int) := by omega
        clear hend hqc0
        go_wp2_with fail
        refine (HGt.out B9 d9 q L _ (by omega) HL.out.1 HL.out.2 HRow.out).mono ?_
        rintro e w5 ⟨r, rfl, hr, hb⟩
        have HR := Lib.hid (And.intro hr (below_nx HBl.out hb))
        clear hr hb
        go_wp2_with fail
        go_ret
        exact ⟨r, rfl, HR.out.1, below_nx (by rw [Hzt.out]; exact HB0.out) HR.out.2⟩

set_option maxRecDepth 100000 in
set_option maxHeartbeats 2000000 in
theorem r10inf_any (R C gT N cT : Nat) (T V : List Nat) (w : World) (hT : Row w (some ⟨gT, 0, none⟩) (f64s T)) (hW : Wds T) (hTl : T.length = N) (hN : N < 1048576) (hRC : R * C = N) (hR : R < 1048576) (hC : C < 1048576) (hV : Wds V) (hVq : ∀ q, q < R → C ≠ 0 → asumF (lst T (q * C) 1 C) C = V.getD q 0) :
    Calls Try.prog 15 #[.agg #[.int .i64 R, .int .i64 C, .slice (some ⟨gT, 0, none⟩) N cT]] w fun e w' => ∃ r, e = .returned (.float .f64 r) ∧ Is r (if R = 0 ∨ C = 0 then 0 else gF V R) ∧ Below w.heap.size w w' := by
  obtain ⟨i0, hi, hz0, hz1, hz2⟩ := fi0
  have HTr := Lib.hid hT
  have HCl := Lib.hid (fun W (q : Nat) (hq : q < R) (h : Row W (some ⟨gT, 0, none⟩) (f64s T)) => nrrow_any R C gT N cT T q W h hTl hN hRC hq (by omega))
  have HAs := Lib.hid (fun (B : Option Addr) (d : Nat) W (q : Nat) (hq : q < R) (h0 : C ≠ 0) (h : Row W B (f64s (lst T (q * C) 1 C))) => show Calls Try.prog 18 #[.slice B C d] W fun e w' => ∃ r, e = .returned (.float .f64 r) ∧ Is r (V.getD q 0) ∧ Below W.heap.size W w' from by
    have := rasum_any B C d (lst T (q * C) 1 C) W h (lst_wds2 hW _ _ _) (lst_length _ _ _ _) (by omega)
    rw [hVq q hq h0] at this
    exact this)
  have HGt := Lib.hid (fun (B : Option Addr) (d K : Nat) (L : List Nat) W (hK : K < 1048576) (hL : L.length = K) (hq : ∀ j, j < K → Is (L.getD j 0) (V.getD j 0)) (h : Row W B (f64s L)) => show Calls Try.prog 37 #[.slice B K d] W fun e w' => ∃ r, e = .returned (.float .f64 r) ∧ Is r (gF V K) ∧ Below W.heap.size W w' from by
    have hLw : Wds L := by
      intro b hb
      obtain ⟨k, hk, rfl⟩ := List.mem_iff_getElem.1 hb
      rw [← getD_of_lt hk]
      exact (hq k (by omega)).lt
    refine (rgreat5_any B K d L W h hLw hL hK).mono ?_
    rintro e w' ⟨r, rfl, hr, hb⟩
    exact ⟨r, rfl, hr.trans (gF_alike hLw K hq hV), hb⟩)
  obtain ⟨M, hM⟩ : ∃ M, (if C = 0 then 0 else R) = M := ⟨_, rfl⟩
  have hM1 : ∀ q, q < M → q < R ∧ C ≠ 0 := fun q hq => by
    by_cases h : C = 0
    · rw [if_pos h] at hM; omega
    · rw [if_neg h] at hM; exact ⟨by omega, h⟩
  have hM2 : ∀ q, ¬ q < M → q ≤ M → ¬ q < R ∨ C = 0 := fun q hq _ => by
    by_cases h : C = 0
    · exact .inr h
    · rw [if_neg h] at hM; exact .inl (by omega)
  have hZ : gF V M = if R = 0 ∨ C = 0 then 0 else gF V R := by
    by_cases h : C = 0
    · rw [if_pos h] at hM; rw [if_pos (by omega), ← hM]; rfl
    · rw [if_neg h] at hM
      subst hM
      by_cases h2 : R = 0
      · rw [if_pos (by omega), h2]; rfl
      · rw [if_neg (by omega)]
  rw [← hZ]
  have hMb : M < 1048576 := by
    by_cases h : C = 0
    · rw [if_pos h] at hM; omega
    · rw [if_neg h] at hM; omega
  have HM1 := Lib.hid hM1
  have HM2 := Lib.hid hM2
  clear hT hTl hN hRC hR hC hVq hW hV hM hM1 hM2 hZ
  go_enter Try.func15, Try.ntmps15
  have HZ := Lib.hid (Blk.new w 32 #[.int .i64 R, .int .i64 C, .slice (some ⟨gT, 0, none⟩) N cT])
  have hb0 : Below w.heap.size w (w.alloc (.cells #[.int .i64 R, .int .i64 C, .slice (some ⟨gT, 0, none⟩) N cT] 32)) := (Below.refl w.heap.size w).alloc (Nat.le_refl _) (.cells #[.int .i64 R, .int .i64 C, .slice (some ⟨gT, 0, none⟩) N cT] 32)
  have HTr1 := Lib.hid (HTr.out.below hb0)
  clear HTr
  have HB0 := Lib.hid hb0
  clear hb0
  go_wp2_with fail
  generalize hw1 : w.alloc (.cells #[.int .i64 R, .int .i64 C, .slice (some ⟨gT, 0, none⟩) N cT] 32) = w1 at *
  have Hz := Lib.hid (show w.heap.size < w1.heap.size from HZ.out.lt)
  generalize hzt : w.heap.size = zt at *
  have Hzt := Lib.hid hzt
  clear hw1 hzt
  go_loopw [3, 4] (fun out i wr => ∃ (q : Nat) (L : List Nat), q ≤ M ∧ i = .int .i64 q ∧ Hid (L.length = q ∧ ∀ j, j < q → (fun q r => Is r (V.getD q 0)) j (L.getD j 0)) ∧ wr.ownsRow w1.heap.size 27 1 out q (f64s L) ∧ Below w1.heap.size w1 wr) (fun _ i _ => M - (intOf i).toNat)
  case atStart => exact ⟨0, [], Nat.zero_le _, rfl, Lib.hid ⟨rfl, fun j h => by omega⟩, World.ownsRow_nil _ _ _ _, Below.refl _ _⟩
  case round =>
    obtain ⟨q, L, hq, rfl, HL, hown, hbl⟩ := hrel
    have HBl := Lib.hid hbl
    have HOw0 := Lib.hid hown
    clear hown hbl
    obtain ⟨t0, t1, t2⟩ := cells3v (HZ.out.below HBl.out HZ.out.lt)
    by_cases hlt : q < M
    · have hqM := HM1.out q hlt
      have hqc : decide (q < R) = true := decide_eq_true hqM.1
      have hqi : (q : Int) < (R : Int) := by omega
      have hoc : decide (0 < C) = true := decide_eq_true (by omega)
      have hoi : (0 : Int) < (C : Int) := by omega
      have hq1 : q + 1 ≤ 1048576 := by omega
      have HClq := Lib.hid (HCl.out wr q hqM.1 (HTr1.out.below HBl.out))
      have HAq := Lib.hid (fun B d W h => HAs.out B d W q hqM.1 hqM.2 h)
      clear hqM
      go_wp2_with fail
      refine HClq.out.mono ?_
      rintro e wa ⟨B, d, rfl, hRow, hba⟩
      have HRw := Lib.hid hRow
      have HOwA := Lib.hid (ownsRow_below HOw0.out hba)
      have HBlA := Lib.hid (below_nx HBl.out hba)
      clear hba hRow t0 t1 t2
      go_wp2_with fail
      refine (HAq.out B d _ HRw.out).mono ?_
      rintro e wt ⟨v, rfl, hv, hbt⟩
      have HR := Lib.hid hv
      have HOwW := Lib.hid (ownsRow_below HOwA.out hbt)
      have HBlW := Lib.hid (below_nx HBlA.out hbt)
      clear hbt hv
      have HN := Lib.hid (Blk.new wt 27 #[.float .f64 v])
      have HOw2 := Lib.hid (HOwW.out.alloc (.cells #[.float .f64 v] 27))
      go_wp2_with (at_builtin; refine wpList_append_own _ rfl _ _ 22 rfl w1.heap.size 27 i0 (.float .f64 0) 1 8 Try.underlying22 hi hz0 hz1 hz2 rfl (by decide) _ q (f64s L) rfl HOw2.out ⟨wt.heap.size, 0, none⟩ 1 1 [.float .f64 v] rfl rfl ?c1 (by intro u hu; simp at hu; subst hu; rfl) ?c3 ?c4 ?c5 ?_)
      case c1 =>
        intro j u hj
        match j, hj with
        | 0, hj =>
          have : u = .float .f64 v := by simpa using hj.symm
          subst this
          exact HN.out.cell 0
        | j + 1, hj => simp at hj
      case c3 => unfold maxLen; omega
      case c4 => omega
      case c5 => (try simp); have := HBlW.out.size; omega
      intro v' w' hown' hgrow _
      have HOw3 := Lib.hid (show w'.ownsRow w1.heap.size 27 1 v' (q + 1) (f64s (L ++ [v])) by rw [f64s_snoc]; exact hown')
      have HBl3 := Lib.hid ((HBlW.out.alloc HBlW.out.size (.cells #[.float .f64 v] 27)).grown hgrow (by simp; have := HBlW.out.size; omega) (fun k hk => by have := (HOw2.out.lt k hk).1; omega))
      clear hown' hgrow
      go_wp2_with fail
      go_roundw
      case rel => exact ⟨q + 1, L ++ [v], by omega, by go_num, Lib.hid ⟨by simp [HL.out.1], NrQ_all (R := fun q r => Is r (V.getD q 0)) HL.out.1 HL.out.2 HR.out⟩, HOw3.out, HBl3.out⟩
      case measure => simp [intOf]; omega
    · have hrow := own_row HOw0.out HL.out.1.symm
      have hend := HM2.out q hlt hq
      obtain ⟨B9, d9, rfl, hrow⟩ := hrow
      have HRow := Lib.hid hrow
      clear hrow
      obtain rfl : q = M := by omega
      by_cases hqc0 : q < R
      · have hqc : decide (q < R) = true := decide_eq_true hqc0
        have hqi : (q : Int) < (R : Int) := by omega
        obtain h0 : C = 0 := by rcases hend with h | h; exact absurd hqc0 h; exact h
        have hoc : decide (0 < C) = false := decide_eq_false (by omega)
        have hoi : ¬ (0 : Int) < (C : Int) := by omega
        clear hend hqc0 h0
        go_wp2_with fail
        refine (HGt.out B9 d9 q L _ (by omega) HL.out.1 HL.out.2 HRow.out).mono ?_
        rintro e w5 ⟨r, rfl, hr, hb⟩
        have HR := Lib.hid (And.intro hr (below_nx HBl.out hb))
        clear hr hb
        go_wp2_with fail
        go_ret
        exact ⟨r, rfl, HR.out.1, below_nx (by rw [Hzt.out]; exact HB0.out) HR.out.2⟩
      · have hqc : decide (q < R) = false := decide_eq_false hqc0
        have hqi : ¬ (q : Int) < (R : Int) := by omega
        clear hend hqc0
        go_wp2_with fail
        refine (HGt.out B9 d9 q L _ (by omega) HL.out.1 HL.out.2 HRow.out).mono ?_
        rintro e w5 ⟨r, rfl, hr, hb⟩
        have HR := Lib.hid (And.intro hr (below_nx HBl.out hb))
        clear hr hb
        go_wp2_with fail
        go_ret
        exact ⟨r, rfl, HR.out.1, below_nx (by rw [Hzt.out]; exact HB0.out) HR.out.2⟩

set_option maxRecDepth 100000 in
set_option maxHeartbeats 2000000 in
theorem r10most_any (A : Option Addr) (n c : Nat) (l : List Nat) (w : World) (hA : Row w A (f64s l)) (hW : Wds l) (hl : l.length = n) (hn : n < 1048576) :
    Calls Try.prog 19 #[.slice A n c] w fun e w' => ∃ r, e = .returned (.float .f64 r) ∧ Is r (gF (l.map absW) n) ∧ Below w.heap.size w w' := by
  obtain ⟨i0, hi, hz0, hz1, hz2⟩ := fi0
  have HA := Lib.hid hA
  have HW := Lib.hid hW
  have Hl := Lib.hid hl
  have HGt := Lib.hid (fun (B : Option Addr) (d : Nat) W (h : Row W B (f64s (l.map absW))) => rgreat5_any B n d (l.map absW) W h (abs_wds l) (by rw [List.length_map, hl]) hn)
  have HDn := Lib.hid (fun (m : List Nat) (hm : m.length = n) (h : ∀ j, j < n → m.getD j 0 = absW (l.getD j 0)) => show m = l.map absW from ext_getD (by rw [hm, List.length_map, hl]) (fun i hi => by rw [abs_getD, h i (by omega)]))
  clear hA hW hl
  go_enter Try.func19, Try.ntmps19
  go_wp2_with fail
  go_loopw [3, 4] (fun out i wr => ∃ (q : Nat) (L : List Nat), q ≤ n ∧ i = .int .i64 q ∧ Hid (L.length = q ∧ ∀ j, j < q → (fun q r => r = absW (l.getD q 0)) j (L.getD j 0)) ∧ wr.ownsRow w.heap.size 27 1 out q (f64s L) ∧ Below w.heap.size w wr) (fun _ i _ => n - (intOf i).toNat)
  case atStart => exact ⟨0, [], Nat.zero_le _, rfl, Lib.hid ⟨rfl, fun j h => by omega⟩, World.ownsRow_nil _ _ _ _, Below.refl _ _⟩
  case round =>
    obtain ⟨q, L, hq, rfl, HL, hown, hbl⟩ := hrel
    have HBl := Lib.hid hbl
    have HOw0 := Lib.hid hown
    clear hown hbl
    by_cases hlt : q < n
    · obtain ⟨b, o, rfl, hc0⟩ := HA.out.get0 (k := q) (by rw [Hl.out]; exact hlt)
      have hc := cell_below hc0 HBl.out
      have HXl := Lib.hid (getD_wds HW.out q)
      obtain ⟨x, hx⟩ : ∃ x, l.getD q 0 = x := ⟨_, rfl⟩
      rw [hx] at hc HXl
      have HR := Lib.hid (show absW x = absW (l.getD q 0) by rw [hx])
      have hqc : (q : Int) < (n : Int) := by omega
      have hq1 : q + 1 ≤ 1048576 := by omega
      clear hc0 hx
      go_wp2_with fail
      refine (rabs_any x _ HXl.out).mono ?_
      rintro e w3 ⟨rfl, rfl⟩
      generalize absW x = v at *
      have HOwW := HOw0
      have HBlW := HBl
      have HN := Lib.hid (Blk.new wr 27 #[.float .f64 v])
      have HOw2 := Lib.hid (HOwW.out.alloc (.cells #[.float .f64 v] 27))
      go_wp2_with (at_builtin; refine wpList_append_own _ rfl _ _ 22 rfl w.heap.size 27 i0 (.float .f64 0) 1 8 Try.underlying22 hi hz0 hz1 hz2 rfl (by decide) _ q (f64s L) rfl HOw2.out ⟨wr.heap.size, 0, none⟩ 1 1 [.float .f64 v] rfl rfl ?c1 (by intro u hu; simp at hu; subst hu; rfl) ?c3 ?c4 ?c5 ?_)
      case c1 =>
        intro j u hj
        match j, hj with
        | 0, hj =>
          have : u = .float .f64 v := by simpa using hj.symm
          subst this
          exact HN.out.cell 0
        | j + 1, hj => simp at hj
      case c3 => unfold maxLen; omega
      case c4 => omega
      case c5 => (try simp); have := HBlW.out.size; omega
      intro v' w' hown' hgrow _
      have HOw3 := Lib.hid (show w'.ownsRow w.heap.size 27 1 v' (q + 1) (f64s (L ++ [v])) by rw [f64s_snoc]; exact hown')
      have HBl3 := Lib.hid ((HBlW.out.alloc HBlW.out.size (.cells #[.float .f64 v] 27)).grown hgrow (by simp; have := HBlW.out.size; omega) (fun k hk => by have := (HOw2.out.lt k hk).1; omega))
      clear hown' hgrow
      go_wp2_with fail
      go_roundw
      case rel => exact ⟨q + 1, L ++ [v], by omega, by go_num, Lib.hid ⟨by simp [HL.out.1], NrQ_all (R := fun q r => r = absW (l.getD q 0)) HL.out.1 HL.out.2 HR.out⟩, HOw3.out, HBl3.out⟩
      case measure => simp [intOf]; omega
    · obtain rfl : q = n := by omega
      have hqc : ¬ (q : Int) < (q : Int) := by omega
      obtain ⟨B9, d9, rfl, hrow⟩ := own_row HOw0.out HL.out.1.symm
      have hL := HDn.out L HL.out.1 HL.out.2
      subst hL
      have HRow := Lib.hid hrow
      clear hrow
      go_wp2_with fail
      refine (HGt.out B9 d9 _ HRow.out).mono ?_
      rintro e w5 ⟨r, rfl, hr, hb⟩
      have HR := Lib.hid (And.intro hr (below_nx HBl.out hb))
      clear hr hb
      go_wp2_with fail
      go_ret
      exact ⟨r, rfl, HR.out.1, HR.out.2⟩
set_option maxHeartbeats 2000000 in
theorem r10max_any (R C gT N cT : Nat) (T : List Nat) (w : World) (hT : Row w (some ⟨gT, 0, none⟩) (f64s T)) (hW : Wds T) (hTl : T.length = N) (hN : N < 1048576) :
    Calls Try.prog 16 #[.agg #[.int .i64 R, .int .i64 C, .slice (some ⟨gT, 0, none⟩) N cT]] w fun e w' => ∃ r, e = .returned (.float .f64 r) ∧ Is r (gF (T.map absW) N) ∧ Below w.heap.size w w' := by
  have HM := Lib.hid (fun W (hb : Below w.heap.size w W) => r10most_any (some ⟨gT, 0, none⟩) N cT T W (hT.below hb) hW hTl hN)
  clear hT hW hTl hN
  have HZ := Lib.hid (Blk.new w 32 #[.int .i64 R, .int .i64 C, .slice (some ⟨gT, 0, none⟩) N cT])
  have HB0 := Lib.hid ((Below.refl w.heap.size w).alloc (Nat.le_refl _) (.cells #[.int .i64 R, .int .i64 C, .slice (some ⟨gT, 0, none⟩) N cT] 32))
  obtain ⟨t0, t1, t2⟩ := cells3v HZ.out
  go_enter Try.func16, Try.ntmps16
  go_wp2_with fail
  refine (HM.out _ HB0.out).mono ?_
  rintro e w1 ⟨r, rfl, hr, hb⟩
  have HR := Lib.hid (And.intro hr (below_nx HB0.out hb))
  clear hr hb t0 t1 t2
  go_wp2_with fail
  go_ret
  exact ⟨r, rfl, HR.out.1, HR.out.2⟩

end Go.Proofs.Ytbdlfaclakppgaa
/-
Norms: the greatest number of a matrix; the law's example; NormsVectors. Conditions: as each says.
-/
set_option linter.unusedVariables false
set_option linter.unusedSimpArgs false
set_option linter.unnecessarySimpa false
namespace Go.Proofs.Ytbdlfaclakppgaa
open Go.RowKit
attribute [local go_sem ↓] Go.wp_at_zero Go.wp_at_succ

/-- The greatest of the rows' greatest is the greatest of all. -/
theorem grp_rowM {l : List Nat} {o R C L : Nat} : GrP (fun x => ∃ i, i < R ∧ ∃ j, j < C ∧ x = absW (l.getD (o + i + j * L) 0)) (gF (rowM l o R C L) R) := by
  refine GrP.union (P := fun i x => ∃ j, j < C ∧ x = absW (l.getD (o + i + j * L) 0)) (V := fun i => gF ((colsL l (o + i) 1 L C).map absW) C) (fun i _ => ?_) ?_
  · refine (GrP.gF (abs_wds (colsL l (o + i) 1 L C)) C).congr fun x => ?_
    have e : ∀ k, k < C → ((colsL l (o + i) 1 L C).map absW).getD k 0 = absW (l.getD (o + i + k * L) 0) := fun k hk => by
      rw [abs_getD]
      have := colsL_getD l (o + i) 1 L (a := 0) (b := k) (by omega) hk
      rw [Nat.mul_one, Nat.add_zero] at this
      rw [this, Nat.add_zero]
    constructor
    · rintro ⟨k, hk, h⟩; exact ⟨k, hk, by rw [h, e k hk]⟩
    · rintro ⟨k, hk, h⟩; exact ⟨k, hk, by rw [h, e k hk]⟩
  · refine (GrP.gF (nrmap_wds _ (fun k => gF_lt (abs_wds _) _)) R).congr fun x => ?_
    constructor
    · rintro ⟨k, hk, h⟩
      rw [nrmap_getD hk] at h
      exact ⟨k, hk, h⟩
    · rintro ⟨k, hk, h⟩
      exact ⟨k, hk, by rw [nrmap_getD hk]; exact h⟩
theorem grp_tab {l T : List Nat} {o R C L N : Nat} (h : Tab l o R C L N T) (hN : R * C = N) : GrP (fun x => ∃ i, i < R ∧ ∃ j, j < C ∧ x = absW (l.getD (o + i + j * L) 0)) (gF (T.map absW) N) := by
  refine (GrP.gF (abs_wds T) N).congr fun x => ?_
  constructor
  · rintro ⟨k, hk, e⟩
    rw [abs_getD] at e
    have hC : 0 < C := by
      rcases Nat.eq_zero_or_pos C with h0 | h0
      · subst h0; simp at hN; omega
      · exact h0
    have hi : k / C < R := Nat.div_lt_of_lt_mul (by rw [Nat.mul_comm, hN]; exact hk)
    have hj : k % C < C := Nat.mod_lt _ hC
    have hk2 : k / C * C + k % C = k := by rw [Nat.mul_comm]; exact Nat.div_add_mod k C
    refine ⟨k / C, hi, k % C, hj, ?_⟩
    rw [e, ← tab_get h hN hi hj, hk2]
  · rintro ⟨i, hi, j, hj, e⟩
    refine ⟨i * C + j, by rw [← hN]; exact tab_lt hi hj, ?_⟩
    rw [abs_getD, tab_get h hN hi hj]; exact e
theorem nrZ3_tab {l T : List Nat} {o R C L N : Nat} (h : Tab l o R C L N T) (hN : R * C = N) : Is (gF (T.map absW) N) (nrZ3 l o R C L) := by
  unfold nrZ3
  by_cases h0 : R = 0 ∨ C = 0
  · rw [if_pos h0]
    have : N = 0 := by rw [← hN]; rcases h0 with h | h <;> rw [h] <;> simp
    subst this
    exact is_zero
  · rw [if_neg h0]
    exact GrP.unique (grp_tab h hN) grp_rowM
theorem nr_colT {l T : List Nat} {o R C L N : Nat} (h : Tab l o R C L N T) (hN : R * C = N) (q : Nat) (hq : q < C) : asumF (lst T q C R) R = (colS l o R C L).getD q 0 := by
  unfold colS
  rw [nrmap_getD hq]
  congr 1
  refine ext_getD (by rw [lst_length, lst_length]) fun i hi => ?_
  rw [lst_length] at hi
  rw [lst_getD T q C hi, lst_getD l (o + q * L) 1 hi, Nat.add_comm q, tab_get h hN hi hq]
  congr 1
  omega
theorem nr_rowT {l T : List Nat} {o R C L N : Nat} (h : Tab l o R C L N T) (hN : R * C = N) (q : Nat) (hq : q < R) : asumF (lst T (q * C) 1 C) C = (rowS l o R C L).getD q 0 := by
  unfold rowS
  rw [nrmap_getD hq]
  congr 1
  refine ext_getD (by rw [lst_length, lst_length]) fun i hi => ?_
  rw [lst_length] at hi
  rw [lst_getD T (q * C) 1 hi, lst_getD l (o + q) L hi, Nat.mul_one, tab_get h hN hq hi]
theorem colS_wds (l : List Nat) (o R C L : Nat) : Wds (colS l o R C L) := nrmap_wds _ (fun k => asumF_lt _ _)
theorem rowS_wds (l : List Nat) (o R C L : Nat) : Wds (rowS l o R C L) := nrmap_wds _ (fun k => asumF_lt _ _)
/-- 1, -2, 3, 4, row by row, column by column. -/
def exN1 : List Nat := [4607182418800017408, 13835058055282163712, 4613937818241073152, 4616189618054758400]
def exN2 : List Nat := [4607182418800017408, 4613937818241073152, 13835058055282163712, 4616189618054758400]
theorem exN1_wds : Wds exN1 := by intro b hb; simp [exN1] at hb; omega
theorem exN2_wds : Wds exN2 := by intro b hb; simp [exN2] at hb; omega
theorem exN_1 : nrZ1 exN2 0 2 2 2 = 4618441417868443648 := by decide +kernel
theorem exN_2 : nrZ2 exN2 0 2 2 2 = 4619567317775286272 := by decide +kernel
theorem exN_3 : nrZ3 exN2 0 2 2 2 = 4616189618054758400 := by decide +kernel
theorem exE_1 : (FloatKind.f64.format.order 4618441417868443648 4618441417868443648 == some .eq) = true := by decide +kernel
theorem exE_2 : (FloatKind.f64.format.order 4619567317775286272 4619567317775286272 == some .eq) = true := by decide +kernel
theorem exE_3 : (FloatKind.f64.format.order 4616189618054758400 4616189618054758400 == some .eq) = true := by decide +kernel
theorem exE_0 : (FloatKind.f64.format.order 0 0 == some .eq) = true := by decide +kernel

set_option maxRecDepth 100000 in
set_option maxHeartbeats 2000000 in
theorem awake10_any (w : World) : Calls Try.prog 6 #[] w fun e w' => e = .returned (.bool true) ∧ Below w.heap.size w w' := by
  have z0 : I64 0 := by unfold I64; omega
  have z2 : I64 2 := by unfold I64; omega
  have HBd := Lib.hid (fun W => show Calls Try.prog 8 #[.agg #[.slice none 0 0, .int .i64 0, .int .i64 0, .int .i64 0, .int .i64 0]] W fun e w' => e = .returned (.tuple #[.float .f64 0, .int .i64 1]) ∧ Below W.heap.size W w' from
    nrone_bad none 0 0 0 0 0 0 W (by omega) z0 z0 z0 z0 (by decide))
  have HDn := Lib.hid (fun W (A : Option Addr) (hA : Row W A (f64s exN1)) => show Calls Try.prog 21 #[.int .i64 2, .int .i64 2, .slice A 4 4] W fun e w' => ∃ g, e = .returned (.agg #[.slice (some ⟨g, 0, none⟩) 4 4, .int .i64 0, .int .i64 2, .int .i64 2, .int .i64 2]) ∧ Own w' g exN2 ∧ Below W.heap.size W w' from by
    refine (dense_blk A 4 exN1 2 2 W (by omega) (by omega) hA (by decide) (by decide)).mono ?_
    rintro e w' ⟨g', M, rfl, hd, hB, hg, hb⟩
    obtain rfl := dense_ex hd
    exact ⟨g', rfl, own_blk hB, hb⟩)
  have Hnrone := Lib.hid (fun (g : Nat) W (hO : Own W g exN2) => show Calls Try.prog 8 #[.agg #[.slice (some ⟨g, 0, none⟩) 4 4, .int .i64 0, .int .i64 2, .int .i64 2, .int .i64 2]] W fun e w' => e = .returned (.tuple #[.float .f64 4618441417868443648, .int .i64 0]) ∧ Below W.heap.size W w' from by
    refine (nrone_any (some ⟨g, 0, none⟩) 4 4 exN2 0 2 2 2 W hO.row exN2_wds rfl (by omega) z0 z2 (by omega) (by omega) (by omega) (by omega) (by omega)).mono ?_
    rintro e w' ⟨r, rfl, hr, hb⟩
    rw [exN_1] at hr
    exact ⟨by rw [hr.eq_of (by decide)], hb⟩)
  have Hnrinf := Lib.hid (fun (g : Nat) W (hO : Own W g exN2) => show Calls Try.prog 9 #[.agg #[.slice (some ⟨g, 0, none⟩) 4 4, .int .i64 0, .int .i64 2, .int .i64 2, .int .i64 2]] W fun e w' => e = .returned (.tuple #[.float .f64 4619567317775286272, .int .i64 0]) ∧ Below W.heap.size W w' from by
    refine (nrinf_any (some ⟨g, 0, none⟩) 4 4 exN2 0 2 2 2 W hO.row exN2_wds rfl (by omega) z0 z2 (by omega) (by omega) (by omega) (by omega) (by omega)).mono ?_
    rintro e w' ⟨r, rfl, hr, hb⟩
    rw [exN_2] at hr
    exact ⟨by rw [hr.eq_of (by decide)], hb⟩)
  have Hnrmax := Lib.hid (fun (g : Nat) W (hO : Own W g exN2) => show Calls Try.prog 10 #[.agg #[.slice (some ⟨g, 0, none⟩) 4 4, .int .i64 0, .int .i64 2, .int .i64 2, .int .i64 2]] W fun e w' => e = .returned (.tuple #[.float .f64 4616189618054758400, .int .i64 0]) ∧ Below W.heap.size W w' from by
    refine (nrmax_any (some ⟨g, 0, none⟩) 4 4 exN2 0 2 2 2 W hO.row exN2_wds rfl (by omega) (by omega) z0 z2 (by omega) (by omega) (by omega) (by omega) (by omega)).mono ?_
    rintro e w' ⟨r, rfl, hr, hb⟩
    rw [exN_3] at hr
    exact ⟨by rw [hr.eq_of (by decide)], hb⟩)
  have hq1 := exE_1
  have hq2 := exE_2
  have hq3 := exE_3
  clear z0 z2
  go_enter Try.func6, Try.ntmps6
  go_wp2_with fail
  refine (HBd.out _).mono ?_
  rintro e w1 ⟨rfl, hb⟩
  have HB1 := Lib.hid hb
  clear hb
  go_wp2_with fail
  have HR1 := Lib.hid (own_blk (Blk.new w1 27 (f64s exN1).toArray)).row
  have HB2 := Lib.hid (below_al HB1.out (o := (.cells (f64s exN1).toArray 27)))
  refine (HDn.out _ _ HR1.out).mono ?_
  rintro e w2 ⟨g, rfl, hO, hb⟩
  have HB3 := Lib.hid (below_al (below_nx HB2.out hb) (o := (.cells #[.slice (some ⟨g, 0, none⟩) 4 4, .int .i64 0, .int .i64 2, .int .i64 2, .int .i64 2] 24)))
  have HM3 := Lib.hid (Blk.new w2 24 #[.slice (some ⟨g, 0, none⟩) 4 4, .int .i64 0, .int .i64 2, .int .i64 2, .int .i64 2])
  have HO3 := Lib.hid (hO.nxt (below_one (o := (.cells #[.slice (some ⟨g, 0, none⟩) 4 4, .int .i64 0, .int .i64 2, .int .i64 2, .int .i64 2] 24))))
  clear hb hO
  obtain ⟨m0, m1, m2, m3, m4⟩ := cells5 HM3.out
  go_wp2_with fail
  refine (Hnrone.out g _ HO3.out).mono ?_
  rintro e w4 ⟨rfl, hb⟩
  have HB4 := Lib.hid (below_nx HB3.out hb)
  have HM4 := Lib.hid (HM3.out.nxt hb)
  have HO4 := Lib.hid (HO3.out.nxt hb)
  clear hb m0 m1 m2 m3 m4
  obtain ⟨m0, m1, m2, m3, m4⟩ := cells5 HM4.out
  go_wp2_with fail
  refine (Hnrinf.out g _ HO4.out).mono ?_
  rintro e w5 ⟨rfl, hb⟩
  have HB5 := Lib.hid (below_nx HB4.out hb)
  have HM5 := Lib.hid (HM4.out.nxt hb)
  have HO5 := Lib.hid (HO4.out.nxt hb)
  clear hb m0 m1 m2 m3 m4
  obtain ⟨m0, m1, m2, m3, m4⟩ := cells5 HM5.out
  go_wp2_with fail
  refine (Hnrmax.out g _ HO5.out).mono ?_
  rintro e w6 ⟨rfl, hb⟩
  have HB6 := Lib.hid (below_nx HB5.out hb)
  clear hb m0 m1 m2 m3 m4
  go_wp2_with fail
  go_ret
  exact ⟨rfl, HB6.out⟩
set_option maxHeartbeats 2000000 in
theorem normsVectors_n (A : Option Addr) (n c : Nat) (l : List Nat) (w : World) (hA : Row w A (f64s l)) (hW : Wds l) (hl : l.length = n) (hn : n < 9223372036854775808) :
    Calls Try.prog 4 #[.slice A n c] w fun e w' => e = .returned (.bool true) ∧ Below w.heap.size w w' := by
  have HA := Lib.hid hA
  have HW := Lib.hid hW
  have Hl := Lib.hid hl
  clear hA hW hl
  go_enter Try.func4, Try.ntmps4
  go_wp2_with fail
  refine (awake10_any _).mono ?_
  rintro e w1 ⟨rfl, hb⟩
  have HB1 := Lib.hid hb
  clear hb
  by_cases hlg : (100 : Int) < (n : Int)
  · go_wp2_with fail
    refine (awake10_any _).mono ?_
    rintro e w2 ⟨rfl, hb⟩
    have HB2 := Lib.hid (below_nx HB1.out hb)
    clear hb
    go_wp2_with fail
    go_ret
    exact ⟨rfl, HB2.out⟩
  have hn2 : n < 1048576 := by omega
  go_wp2_with fail
  refine (nrvector_any A n c l _ (HA.out.below HB1.out) HW.out Hl.out hn2).mono ?_
  rintro e w2 ⟨r1, r2, rfl, h1, h2, hb⟩
  have HR1 := Lib.hid h1
  have HR2 := Lib.hid h2
  have HB2 := Lib.hid (below_nx HB1.out hb)
  clear h1 h2 hb
  go_wp2_with fail
  refine (rasum_any A n c l _ (HA.out.below HB2.out) HW.out Hl.out hn2).mono ?_
  rintro e w3 ⟨s1, rfl, h1, hb⟩
  have HS1 := Lib.hid h1
  have HB3 := Lib.hid (below_nx HB2.out hb)
  clear h1 hb
  go_wp2_with fail
  refine (rsame_v r1 s1 _ HR1.out.lt HS1.out.lt).mono ?_
  rw [HR1.out.same HS1.out]
  rintro e w4 ⟨rfl, rfl⟩
  go_wp2_with fail
  refine (r10most_any A n c l _ (HA.out.below HB3.out) HW.out Hl.out hn2).mono ?_
  rintro e w5 ⟨s2, rfl, h2, hb⟩
  have HS2 := Lib.hid h2
  have HB5 := Lib.hid (below_nx HB3.out hb)
  clear h2 hb
  go_wp2_with fail
  refine (rsame_v r2 s2 _ HR2.out.lt HS2.out.lt).mono ?_
  rw [HR2.out.same HS2.out]
  rintro e w6 ⟨rfl, rfl⟩
  go_wp2_with fail
  refine (awake10_any _).mono ?_
  rintro e w7 ⟨rfl, hb⟩
  have HB7 := Lib.hid (below_nx HB5.out hb)
  clear hb
  go_wp2_with fail
  go_ret
  exact ⟨rfl, HB7.out⟩
theorem normsVectors_walk (A : Option Addr) (c : Nat) (l : List Nat) (w : World) (hA : Row w A (f64s l)) (hW : Wds l) (hn : l.length < 9223372036854775808) :
    Calls Try.prog 4 #[.slice A l.length c] w fun e w' => e = .returned (.bool true) ∧ Below w.heap.size w w' := normsVectors_n A _ c l w hA hW rfl hn

end Go.Proofs.Ytbdlfaclakppgaa
/-
NormsTell. Conditions: none.
-/
set_option linter.unusedVariables false
set_option linter.unusedSimpArgs false
set_option linter.unnecessarySimpa false
namespace Go.Proofs.Ytbdlfaclakppgaa
open Go.RowKit
attribute [local go_sem ↓] Go.wp_at_zero Go.wp_at_succ

set_option maxHeartbeats 2000000 in
theorem normsTell_great (Am : Option Addr) (nm cm : Nat) (mo mr mk ml : Int) (w : World) (h : greatB nm mr mk = true) : Calls Try.prog 3 #[mat Am nm cm mo mr mk ml] w fun e w' => e = .returned (.bool true) ∧ Below w.heap.size w w' := by
  have HGr := Lib.hid (fun W => great_any Am nm cm mo mr mk ml W)
  rw [h] at HGr
  clear h
  unfold mat at *
  go_enter Try.func3, Try.ntmps3
  have Hm0 := Lib.hid (Blk.new w 24 #[.slice Am nm cm, .int .i64 mo, .int .i64 mr, .int .i64 mk, .int .i64 ml])
  have HB0 := Lib.hid ((Below.refl w.heap.size w).alloc (Nat.le_refl _) (.cells #[.slice Am nm cm, .int .i64 mo, .int .i64 mr, .int .i64 mk, .int .i64 ml] 24))
  obtain ⟨m0, m1, m2, m3, m4⟩ := cells5 Hm0.out
  go_wp2_with fail
  refine (awake10_any _).mono ?_
  rintro e w1 ⟨rfl, hb⟩
  have Hm1 := Lib.hid (Hm0.out.nxt hb)
  have HB1 := Lib.hid (below_nx HB0.out hb)
  clear hb
  clear m0 m1 m2 m3 m4
  obtain ⟨m0, m1, m2, m3, m4⟩ := cells5 Hm1.out
  go_wp2_with fail
  refine (HGr.out _).mono ?_
  rintro e w2 ⟨rfl, hb⟩
  have Hm2 := Lib.hid (Hm1.out.nxt hb)
  have HB2 := Lib.hid (below_nx HB1.out hb)
  clear hb
  clear m0 m1 m2 m3 m4
  obtain ⟨m0, m1, m2, m3, m4⟩ := cells5 Hm2.out
  go_wp2_with fail
  refine (awake10_any _).mono ?_
  rintro e w3 ⟨rfl, hb⟩
  have Hm3 := Lib.hid (Hm2.out.nxt hb)
  have HB3 := Lib.hid (below_nx HB2.out hb)
  clear hb
  clear m0 m1 m2 m3 m4
  obtain ⟨m0, m1, m2, m3, m4⟩ := cells5 Hm3.out
  go_wp2_with fail
  go_ret
  exact ⟨rfl, HB3.out⟩

set_option maxRecDepth 100000 in
set_option maxHeartbeats 2000000 in
theorem normsTell_bad (Am : Option Addr) (nm cm : Nat) (mo mr mk ml : Int) (w : World) (hn : nm ≤ 1000) (hmo : I64 mo) (hmr : I64 mr) (hmk : I64 mk) (hml : I64 ml) (hG : greatB nm mr mk = false) (h : matB nm mo mr mk ml = false) : Calls Try.prog 3 #[mat Am nm cm mo mr mk ml] w fun e w' => e = .returned (.bool true) ∧ Below w.heap.size w w' := by
  have HGr := Lib.hid (fun W => great_any Am nm cm mo mr mk ml W)
  rw [hG] at HGr
  have H1 := Lib.hid (fun W => nrone_bad Am nm cm mo mr mk ml W (by omega) hmo hmr hmk hml h)
  have H2 := Lib.hid (fun W => nrinf_bad Am nm cm mo mr mk ml W (by omega) hmo hmr hmk hml h)
  have H3 := Lib.hid (fun W => nrmax_bad Am nm cm mo mr mk ml W (by omega) hmo hmr hmk hml h)
  have HGm := Lib.hid (fun W => rgood_any Am nm cm mo mr mk ml W (by omega) hmo hmr hmk hml)
  rw [h] at HGm
  have hq0 := exE_0
  clear h hG hn hmo hmr hmk hml
  unfold mat at *
  go_enter Try.func3, Try.ntmps3
  have Hm0 := Lib.hid (Blk.new w 24 #[.slice Am nm cm, .int .i64 mo, .int .i64 mr, .int .i64 mk, .int .i64 ml])
  have HB0 := Lib.hid ((Below.refl w.heap.size w).alloc (Nat.le_refl _) (.cells #[.slice Am nm cm, .int .i64 mo, .int .i64 mr, .int .i64 mk, .int .i64 ml] 24))
  obtain ⟨m0, m1, m2, m3, m4⟩ := cells5 Hm0.out
  go_wp2_with fail
  refine (awake10_any _).mono ?_
  rintro e w1 ⟨rfl, hb⟩
  have Hm1 := Lib.hid (Hm0.out.nxt hb)
  have HB1 := Lib.hid (below_nx HB0.out hb)
  clear hb
  clear m0 m1 m2 m3 m4
  obtain ⟨m0, m1, m2, m3, m4⟩ := cells5 Hm1.out
  go_wp2_with fail
  refine (HGr.out _).mono ?_
  rintro e w2 ⟨rfl, hb⟩
  have Hm2 := Lib.hid (Hm1.out.nxt hb)
  have HB2 := Lib.hid (below_nx HB1.out hb)
  clear hb
  clear m0 m1 m2 m3 m4
  obtain ⟨m0, m1, m2, m3, m4⟩ := cells5 Hm2.out
  go_wp2_with fail
  refine (H1.out _).mono ?_
  rintro e w3 ⟨rfl, hb⟩
  have Hm3 := Lib.hid (Hm2.out.nxt hb)
  have HB3 := Lib.hid (below_nx HB2.out hb)
  clear hb
  clear m0 m1 m2 m3 m4
  obtain ⟨m0, m1, m2, m3, m4⟩ := cells5 Hm3.out
  go_wp2_with fail
  refine (H2.out _).mono ?_
  rintro e w4 ⟨rfl, hb⟩
  have Hm4 := Lib.hid (Hm3.out.nxt hb)
  have HB4 := Lib.hid (below_nx HB3.out hb)
  clear hb
  clear m0 m1 m2 m3 m4
  obtain ⟨m0, m1, m2, m3, m4⟩ := cells5 Hm4.out
  go_wp2_with fail
  refine (H3.out _).mono ?_
  rintro e w5 ⟨rfl, hb⟩
  have Hm5 := Lib.hid (Hm4.out.nxt hb)
  have HB5 := Lib.hid (below_nx HB4.out hb)
  clear hb
  clear m0 m1 m2 m3 m4
  obtain ⟨m0, m1, m2, m3, m4⟩ := cells5 Hm5.out
  go_wp2_with fail
  refine (HGm.out _).mono ?_
  rintro e w6 ⟨rfl, hb⟩
  have Hm6 := Lib.hid (Hm5.out.nxt hb)
  have HB6 := Lib.hid (below_nx HB5.out hb)
  clear hb
  clear m0 m1 m2 m3 m4
  obtain ⟨m0, m1, m2, m3, m4⟩ := cells5 Hm6.out
  go_wp2_with fail
  refine (awake10_any _).mono ?_
  rintro e w7 ⟨rfl, hb⟩
  have Hm7 := Lib.hid (Hm6.out.nxt hb)
  have HB7 := Lib.hid (below_nx HB6.out hb)
  clear hb
  clear m0 m1 m2 m3 m4
  obtain ⟨m0, m1, m2, m3, m4⟩ := cells5 Hm7.out
  go_wp2_with fail
  go_ret
  exact ⟨rfl, HB7.out⟩


theorem wds_tab {l T : List Nat} {o R C L N : Nat} (h : Tab l o R C L N T) (hW : Wds l) (hN : R * C = N) : Wds T := by
  intro b hb2
  obtain ⟨k, hk, rfl⟩ := List.mem_iff_getElem.1 hb2
  rw [← getD_of_lt hk]
  have hk2 : k < R * C := by rw [h.1] at hk; exact hk
  have hC0 : 0 < C := by
    rcases Nat.eq_zero_or_pos C with e | e
    · subst e; simp at hk2
    · exact e
  have e2 : k = k / C * C + k % C := by rw [Nat.mul_comm]; exact (Nat.div_add_mod k C).symm
  rw [e2, tab_get h hN (Nat.div_lt_of_lt_mul (by rw [Nat.mul_comm]; exact hk2)) (Nat.mod_lt _ hC0)]
  exact getD_wds hW _
set_option maxRecDepth 100000 in
set_option maxHeartbeats 2000000 in
theorem normsTell_ok (Am : Option Addr) (nm cm : Nat) (lm : List Nat) (o R C L : Nat) (w : World) (hAm : Row w Am (f64s lm)) (hWm : Wds lm) (hlm : lm.length = nm) (hnc : nm ≤ cm) (hn : nm ≤ 1000) (hoI : I64 o) (hLI : I64 L) (hR : R ≤ 20) (hC : C ≤ 20) (hL1 : 1 ≤ L) (hRL : R ≤ L) (hmr : R = 0 ∨ C = 0 ∨ o + (C - 1) * L + (R - 1) < nm) :
    Calls Try.prog 3 #[mat Am nm cm o R C L] w fun e w' => e = .returned (.bool true) ∧ Below w.heap.size w w' := by
  have hG : greatB nm (R : Int) (C : Int) = false := by unfold greatB; simp; omega
  have HGr := Lib.hid (fun W => great_any Am nm cm o R C L W)
  rw [hG] at HGr
  have HGm := Lib.hid (fun W => rgood_any Am nm cm o R C L W (by omega) hoI (by unfold I64; omega) (by unfold I64; omega) hLI)
  rw [mat_right hL1 hRL hmr] at HGm
  have H1 := Lib.hid (fun W (hb : Below w.heap.size w W) => nrone_any Am nm cm lm o R C L W (hAm.below hb) hWm hlm (by omega) hoI hLI (by omega) (by omega) hL1 hRL hmr)
  have H2 := Lib.hid (fun W (hb : Below w.heap.size w W) => nrinf_any Am nm cm lm o R C L W (hAm.below hb) hWm hlm (by omega) hoI hLI (by omega) (by omega) hL1 hRL hmr)
  have H3 := Lib.hid (fun W (hb : Below w.heap.size w W) => nrmax_any Am nm cm lm o R C L W (hAm.below hb) hWm hlm hnc (by omega) hoI hLI (by omega) (by omega) hL1 hRL hmr)
  obtain ⟨N, hN⟩ : ∃ N, R * C = N := ⟨_, rfl⟩
  have hNb : N ≤ 400 := by
    have h1 : R * C ≤ 20 * 20 := Nat.mul_le_mul hR hC
    omega
  have HOf := Lib.hid (fun W (hb : Below w.heap.size w W) => show Calls Try.prog 12 #[mat Am nm cm o R C L] W fun e w' => ∃ g T, e = .returned (tbl R C g N N) ∧ Tab lm o R C L N T ∧ Row w' (some ⟨g, 0, none⟩) (f64s T) ∧ Below W.heap.size W w' from by
    refine (rof_any Am nm cm lm o R C L N W (hAm.below hb) hlm (by omega) hN (by omega) (by omega) (by omega) hmr).mono ?_
    rintro e w' ⟨g', T, e1, e2, e3, _, e4⟩
    exact ⟨g', T, e1, e2, e3, e4⟩)
  have HQ1 := Lib.hid (fun g T W (hb : Below w.heap.size w W) (hT : Tab lm o R C L N T) (h : Row W (some ⟨g, 0, none⟩) (f64s T)) => show Calls Try.prog 14 #[.agg #[.int .i64 (R : Int), .int .i64 (C : Int), .slice (some ⟨g, 0, none⟩) N N]] W fun e w' => ∃ r, e = .returned (.float .f64 r) ∧ Is r (nrZ1 lm o R C L) ∧ Below W.heap.size W w' from by
    exact r10one_any R C g N N T (colS lm o R C L) W h (wds_tab hT hWm hN) (by rw [hT.1, hN]) (by omega) hN (by omega) (by omega) (colS_wds _ _ _ _ _) (fun q hq _ => nr_colT hT hN q hq))
  have HQ2 := Lib.hid (fun g T W (hb : Below w.heap.size w W) (hT : Tab lm o R C L N T) (h : Row W (some ⟨g, 0, none⟩) (f64s T)) => show Calls Try.prog 15 #[.agg #[.int .i64 (R : Int), .int .i64 (C : Int), .slice (some ⟨g, 0, none⟩) N N]] W fun e w' => ∃ r, e = .returned (.float .f64 r) ∧ Is r (nrZ2 lm o R C L) ∧ Below W.heap.size W w' from by
    exact r10inf_any R C g N N T (rowS lm o R C L) W h (wds_tab hT hWm hN) (by rw [hT.1, hN]) (by omega) hN (by omega) (by omega) (rowS_wds _ _ _ _ _) (fun q hq _ => nr_rowT hT hN q hq))
  have HQ3 := Lib.hid (fun g T W (hb : Below w.heap.size w W) (hT : Tab lm o R C L N T) (h : Row W (some ⟨g, 0, none⟩) (f64s T)) => show Calls Try.prog 16 #[.agg #[.int .i64 (R : Int), .int .i64 (C : Int), .slice (some ⟨g, 0, none⟩) N N]] W fun e w' => ∃ r, e = .returned (.float .f64 r) ∧ Is r (nrZ3 lm o R C L) ∧ Below W.heap.size W w' from by
    refine (r10max_any R C g N N T W h (wds_tab hT hWm hN) (by rw [hT.1, hN]) (by omega)).mono ?_
    rintro e w' ⟨r, e1, hr, hb'⟩
    exact ⟨r, e1, hr.trans (nrZ3_tab hT hN), hb'⟩)
  generalize nrZ1 lm o R C L = z1 at *
  generalize nrZ2 lm o R C L = z2 at *
  generalize nrZ3 lm o R C L = z3 at *
  clear hAm hWm hlm hnc hn hoI hLI hR hC hL1 hRL hmr hG hN hNb
  unfold mat tbl at *
  go_enter Try.func3, Try.ntmps3
  have Hm0 := Lib.hid (Blk.new w 24 #[.slice Am nm cm, .int .i64 (o : Int), .int .i64 (R : Int), .int .i64 (C : Int), .int .i64 (L : Int)])
  have HB0 := Lib.hid ((Below.refl w.heap.size w).alloc (Nat.le_refl _) (.cells #[.slice Am nm cm, .int .i64 (o : Int), .int .i64 (R : Int), .int .i64 (C : Int), .int .i64 (L : Int)] 24))
  obtain ⟨m0, m1, m2, m3, m4⟩ := cells5 Hm0.out
  go_wp2_with fail
  refine (awake10_any _).mono ?_
  rintro e w1 ⟨rfl, hb⟩
  have Hm1 := Lib.hid (Hm0.out.nxt hb)
  have HB1 := Lib.hid (below_nx HB0.out hb)
  clear hb
  clear m0 m1 m2 m3 m4
  obtain ⟨m0, m1, m2, m3, m4⟩ := cells5 Hm1.out
  go_wp2_with fail
  refine (HGr.out _).mono ?_
  rintro e w2 ⟨rfl, hb⟩
  have Hm2 := Lib.hid (Hm1.out.nxt hb)
  have HB2 := Lib.hid (below_nx HB1.out hb)
  clear hb
  clear m0 m1 m2 m3 m4
  obtain ⟨m0, m1, m2, m3, m4⟩ := cells5 Hm2.out
  go_wp2_with fail
  refine (H1.out _ HB2.out).mono ?_
  rintro e wp1 ⟨r1, rfl, hr, hb⟩
  have HR1 := Lib.hid hr
  clear hr
  have Hm3 := Lib.hid (Hm2.out.nxt hb)
  have HB3 := Lib.hid (below_nx HB2.out hb)
  clear hb
  clear m0 m1 m2 m3 m4
  obtain ⟨m0, m1, m2, m3, m4⟩ := cells5 Hm3.out
  go_wp2_with fail
  refine (H2.out _ HB3.out).mono ?_
  rintro e wp2 ⟨r2, rfl, hr, hb⟩
  have HR2 := Lib.hid hr
  clear hr
  have Hm4 := Lib.hid (Hm3.out.nxt hb)
  have HB4 := Lib.hid (below_nx HB3.out hb)
  clear hb
  clear m0 m1 m2 m3 m4
  obtain ⟨m0, m1, m2, m3, m4⟩ := cells5 Hm4.out
  go_wp2_with fail
  refine (H3.out _ HB4.out).mono ?_
  rintro e wp3 ⟨r3, rfl, hr, hb⟩
  have HR3 := Lib.hid hr
  clear hr
  have Hm5 := Lib.hid (Hm4.out.nxt hb)
  have HB5 := Lib.hid (below_nx HB4.out hb)
  clear hb
  clear m0 m1 m2 m3 m4
  obtain ⟨m0, m1, m2, m3, m4⟩ := cells5 Hm5.out
  go_wp2_with fail
  refine (HGm.out _).mono ?_
  rintro e w6 ⟨rfl, hb⟩
  have Hm6 := Lib.hid (Hm5.out.nxt hb)
  have HB6 := Lib.hid (below_nx HB5.out hb)
  clear hb
  clear m0 m1 m2 m3 m4
  obtain ⟨m0, m1, m2, m3, m4⟩ := cells5 Hm6.out
  go_wp2_with fail
  refine (HOf.out _ HB6.out).mono ?_
  rintro e wf ⟨gT, T, rfl, hT, hRw, hb⟩
  have HTt := Lib.hid hT
  have Hm7 := Lib.hid (Hm6.out.nxt hb)
  have HB7 := Lib.hid (below_nx HB6.out hb)
  clear hb
  clear m0 m1 m2 m3 m4
  obtain ⟨m0, m1, m2, m3, m4⟩ := cells5 Hm7.out
  have HT7 := Lib.hid hRw
  clear hT hRw
  have hb9 : Below wf.heap.size wf (wf.alloc (.cells #[.int .i64 (R : Int), .int .i64 (C : Int), .slice (some ⟨gT, 0, none⟩) N N] 32)) := below_one
  have Hm8 := Lib.hid (Hm7.out.nxt hb9)
  have HT8 := Lib.hid (HT7.out.below hb9)
  have HB8 := Lib.hid (below_nx HB7.out hb9)
  have Ht8 := Lib.hid (Blk.new wf 32 #[.int .i64 (R : Int), .int .i64 (C : Int), .slice (some ⟨gT, 0, none⟩) N N])
  clear hb9
  clear m0 m1 m2 m3 m4
  obtain ⟨m0, m1, m2, m3, m4⟩ := cells5 Hm8.out
  obtain ⟨t0, t1, t2⟩ := cells3v Ht8.out
  go_wp2_with fail
  refine (HQ1.out gT T _ HB8.out HTt.out HT8.out).mono ?_
  rintro e wq1 ⟨s1, rfl, hr, hb⟩
  have HS1 := Lib.hid hr
  clear hr
  have Hm9 := Lib.hid (Hm8.out.nxt hb)
  have Ht9 := Lib.hid (Ht8.out.nxt hb)
  have HT9 := Lib.hid (HT8.out.below hb)
  have HB9 := Lib.hid (below_nx HB8.out hb)
  clear hb
  clear m0 m1 m2 m3 m4 t0 t1 t2
  obtain ⟨m0, m1, m2, m3, m4⟩ := cells5 Hm9.out
  obtain ⟨t0, t1, t2⟩ := cells3v Ht9.out
  go_wp2_with fail
  refine (rsame_v r1 s1 _ HR1.out.lt HS1.out.lt).mono ?_
  rw [HR1.out.same HS1.out]
  rintro e ws1 ⟨rfl, rfl⟩
  go_wp2_with fail
  refine (HQ2.out gT T _ HB9.out HTt.out HT9.out).mono ?_
  rintro e wq2 ⟨s2, rfl, hr, hb⟩
  have HS2 := Lib.hid hr
  clear hr
  have Hm10 := Lib.hid (Hm9.out.nxt hb)
  have Ht10 := Lib.hid (Ht9.out.nxt hb)
  have HT10 := Lib.hid (HT9.out.below hb)
  have HB10 := Lib.hid (below_nx HB9.out hb)
  clear hb
  clear m0 m1 m2 m3 m4 t0 t1 t2
  obtain ⟨m0, m1, m2, m3, m4⟩ := cells5 Hm10.out
  obtain ⟨t0, t1, t2⟩ := cells3v Ht10.out
  go_wp2_with fail
  refine (rsame_v r2 s2 _ HR2.out.lt HS2.out.lt).mono ?_
  rw [HR2.out.same HS2.out]
  rintro e ws2 ⟨rfl, rfl⟩
  go_wp2_with fail
  refine (HQ3.out gT T _ HB10.out HTt.out HT10.out).mono ?_
  rintro e wq3 ⟨s3, rfl, hr, hb⟩
  have HS3 := Lib.hid hr
  clear hr
  have Hm11 := Lib.hid (Hm10.out.nxt hb)
  have Ht11 := Lib.hid (Ht10.out.nxt hb)
  have HT11 := Lib.hid (HT10.out.below hb)
  have HB11 := Lib.hid (below_nx HB10.out hb)
  clear hb
  clear m0 m1 m2 m3 m4 t0 t1 t2
  obtain ⟨m0, m1, m2, m3, m4⟩ := cells5 Hm11.out
  obtain ⟨t0, t1, t2⟩ := cells3v Ht11.out
  go_wp2_with fail
  refine (rsame_v r3 s3 _ HR3.out.lt HS3.out.lt).mono ?_
  rw [HR3.out.same HS3.out]
  rintro e ws3 ⟨rfl, rfl⟩
  go_wp2_with fail
  refine (awake10_any _).mono ?_
  rintro e w11 ⟨rfl, hb⟩
  have Hm12 := Lib.hid (Hm11.out.nxt hb)
  have Ht12 := Lib.hid (Ht11.out.nxt hb)
  have HT12 := Lib.hid (HT11.out.below hb)
  have HB12 := Lib.hid (below_nx HB11.out hb)
  clear hb
  clear m0 m1 m2 m3 m4 t0 t1 t2
  obtain ⟨m0, m1, m2, m3, m4⟩ := cells5 Hm12.out
  obtain ⟨t0, t1, t2⟩ := cells3v Ht12.out
  go_wp2_with fail
  go_ret
  exact ⟨rfl, HB12.out⟩

theorem normsTell_walk (Am : Option Addr) (cm : Nat) (lm : List Nat) (mo mr mk ml : Int) (w : World) (hAm : Row w Am (f64s lm)) (hWm : Wds lm) (hnc : lm.length ≤ cm) (hmo : I64 mo) (hmr : I64 mr) (hmk : I64 mk) (hml : I64 ml) :
    Calls Try.prog 3 #[mat Am lm.length cm mo mr mk ml] w fun e w' => e = .returned (.bool true) ∧ Below w.heap.size w w' := by
  cases hG : greatB lm.length mr mk
  · have hn : lm.length ≤ 1000 ∧ mr ≤ 20 ∧ mk ≤ 20 := by have h := hG; unfold greatB at h; simp at h; omega
    cases h : matB lm.length mo mr mk ml
    · exact normsTell_bad Am _ cm mo mr mk ml w hn.1 hmo hmr hmk hml hG h
    · obtain ⟨o, R, C, L, rfl, rfl, rfl, rfl, hL1, hRL, hmr2⟩ := mat_nat h
      exact normsTell_ok Am _ cm lm o R C L w hAm hWm rfl hnc hn.1 hmo hml (by omega) (by omega) hL1 hRL hmr2
  · exact normsTell_great Am _ cm mo mr mk ml w hG

end Go.Proofs.Ytbdlfaclakppgaa
