/-
Pairs that are turned about in place. Conditions: as each says.
-/
import Derived.Test.YtcdhpoikppfjkaaZYPlD
import Derived.BigRegion
set_option linter.unusedVariables false
set_option linter.unusedSimpArgs false
set_option linter.unnecessarySimpa false
namespace Go.Proofs.Ytcdhpoikppfjkaa
open Go.RowKit
attribute [local go_sem ↓] Go.wp_at_zero Go.wp_at_succ

/-- The cells of so many pairs. -/
def prf (P : Nat → Int × Int) (m : Nat) : List Value := (List.range m).flatMap fun i => [.int .i64 (P i).1, .int .i64 (P i).2]
theorem prs_prf (C : List Int) (m : Nat) : prs C m = prf (fun i => (C.getD i 0, C.getD (i + 1) 0 - C.getD i 0)) m := rfl
theorem prf_succ (P : Nat → Int × Int) (m : Nat) : prf P (m + 1) = prf P m ++ [.int .i64 (P m).1, .int .i64 (P m).2] := by simp [prf, List.range_succ, List.flatMap_append]
theorem prf_length (P : Nat → Int × Int) (m : Nat) : (prf P m).length = m * 2 := by
  induction m with
  | zero => rfl
  | succ m ih => rw [prf_succ, List.length_append, ih]; simp; omega
theorem prf_get (P : Nat → Int × Int) {m i : Nat} (h : i < m) : (prf P m)[i * 2]? = some (.int .i64 (P i).1) ∧ (prf P m)[i * 2 + 1]? = some (.int .i64 (P i).2) := by
  induction m with
  | zero => omega
  | succ m ih =>
    rw [prf_succ]
    have hl := prf_length P m
    by_cases e : i = m
    · subst e
      rw [List.getElem?_append_right (by omega), List.getElem?_append_right (by omega), hl]
      simp
    · obtain ⟨h1, h2⟩ := ih (by omega)
      rw [List.getElem?_append_left (by omega), List.getElem?_append_left (by omega)]
      exact ⟨h1, h2⟩
theorem prf_congr {P Q : Nat → Int × Int} {m : Nat} (h : ∀ i, i < m → P i = Q i) : prf P m = prf Q m := by
  induction m with
  | zero => rfl
  | succ m ih => rw [prf_succ, prf_succ, ih (fun i hi => h i (by omega)), h m (by omega)]
theorem row_prf {W : World} {A : Option Addr} {P : Nat → Int × Int} {m q : Nat} (h : Row W A (prf P m)) (hq : q < m) : ∃ b x, A = some ⟨b, x, none⟩ ∧ W.cell? ⟨b, x + q * 2, none⟩ = some (.int .i64 (P q).1) ∧ W.cell? ⟨b, x + q * 2 + 1, none⟩ = some (.int .i64 (P q).2) := by
  have hp := prf_get P hq
  rcases h with h | ⟨b, x, e, hc⟩
  · rw [h] at hp
    simp at hp
  · exact ⟨b, x, e, hc _ _ hp.1, by rw [Nat.add_assoc]; exact hc _ _ hp.2⟩
/-- The first i, and the last i, have changed places. -/
def rvP (m i : Nat) (P : Nat → Int × Int) (k : Nat) : Int × Int := if k < i ∨ m ≤ k + i then P (m - 1 - k) else P k
theorem rvP_zero {m : Nat} {P : Nat → Int × Int} {k : Nat} (hk : k < m) : rvP m 0 P k = P k := by unfold rvP; rw [if_neg (by omega)]
theorem rvP_end {m i : Nat} {P : Nat → Int × Int} {k : Nat} (hk : k < m) (hi : m ≤ i + i + 1) : rvP m i P k = P (m - 1 - k) := by
  unfold rvP
  split
  · rfl
  · rw [show m - 1 - k = k by omega]
/-- The list's cells. -/
def RvS (g m : Nat) (P : Nat → Int × Int) (W : World) : Prop := ∃ cur, Blk W g 49 cur ∧ ∀ k, k < m → cur[k * 2]? = some (.int .i64 (P k).1) ∧ cur[k * 2 + 1]? = some (.int .i64 (P k).2)
theorem RvS.row {g m : Nat} {P : Nat → Int × Int} {W : World} (h : RvS g m P W) : Row W (some ⟨g, 0, none⟩) (prf P m) := by
  obtain ⟨cur, hB, hc⟩ := h
  refine .inr ⟨g, 0, rfl, fun x u hx => ?_⟩
  rw [Nat.zero_add, hB.cell x]
  have hl : x < m * 2 := by rw [← prf_length P m]; exact (List.getElem?_eq_some_iff.1 hx).1
  have hp := prf_get P (show x / 2 < m by omega)
  rcases Nat.mod_two_eq_zero_or_one x with e | e
  · rw [show x / 2 * 2 = x by omega] at hp
    have h2 := (hc (x / 2) (by omega)).1
    rw [show x / 2 * 2 = x by omega] at h2
    rw [h2, ← hx, hp.1]
  · rw [show x / 2 * 2 + 1 = x by omega] at hp
    have h2 := (hc (x / 2) (by omega)).2
    rw [show x / 2 * 2 + 1 = x by omega] at h2
    rw [h2, ← hx, hp.2]
theorem rv_get {cur : Array Value} {a j : Nat} {u : Value} (h : ∃ v, cur[a]? = some v) : (cur.setIfInBounds a u)[j]? = if j = a then some u else cur[j]? := by
  obtain ⟨v, hv⟩ := h
  have hlt : a < cur.size := by
    rcases Nat.lt_or_ge a cur.size with h1 | h1
    · exact h1
    · rw [Array.getElem?_eq_none (by omega)] at hv; cases hv
  rw [Array.getElem?_setIfInBounds]
  by_cases e : a = j
  · subst e; simp [hlt]
  · rw [if_neg e, if_neg (fun h => e h.symm)]
theorem RvS.drew {g m : Nat} {P : Nat → Int × Int} {W : World} (h : RvS g m P W) : RvS g m P W.drew := h
theorem below_sets4g {z g : Nat} {w W : World} (h : Below z w W) (hz : z ≤ g) (a b c d : Nat) (x0 x1 x2 x3 : Value) : Below z w ((((W.setCell ⟨g, a, none⟩ x0).setCell ⟨g, b, none⟩ x1).setCell ⟨g, c, none⟩ x2).setCell ⟨g, d, none⟩ x3) :=
  (((h.setCell (p := ⟨g, a, none⟩) hz x0).setCell (p := ⟨g, b, none⟩) hz x1).setCell (p := ⟨g, c, none⟩) hz x2).setCell (p := ⟨g, d, none⟩) hz x3
theorem RvS.swap {g m i q : Nat} {P : Nat → Int × Int} {W : World} (h : RvS g m (rvP m i P) W) (hq : i + q + 1 = m) (hiq : i < q) :
    RvS g m (rvP m (i + 1) P) ((((W.setCell ⟨g, i * 2, none⟩ (.int .i64 (P (m - 1 - i)).1)).setCell ⟨g, i * 2 + 1, none⟩ (.int .i64 (P (m - 1 - i)).2)).setCell ⟨g, q * 2, none⟩ (.int .i64 (P (m - 1 - q)).1)).setCell ⟨g, q * 2 + 1, none⟩ (.int .i64 (P (m - 1 - q)).2)) := by
  obtain ⟨cur, hB, hc⟩ := h
  refine ⟨_, (((hB.set_ _ _).set_ _ _).set_ _ _).set_ _ _, fun k hk => ?_⟩
  have ci := hc i (by omega)
  have cq := hc q (by omega)
  have ck := hc k hk
  have e1 : ∀ j u, (cur.setIfInBounds (i * 2) u)[j]? = if j = i * 2 then some u else cur[j]? := fun j u => rv_get ⟨_, ci.1⟩
  have e2 : ∀ j u u', ((cur.setIfInBounds (i * 2) u).setIfInBounds (i * 2 + 1) u')[j]? = if j = i * 2 + 1 then some u' else if j = i * 2 then some u else cur[j]? := fun j u u' => by
    rw [rv_get ⟨(.int .i64 (rvP m i P i).2), by rw [e1, if_neg (by omega)]; exact ci.2⟩, e1]
  have e3 : ∀ j u u' v, (((cur.setIfInBounds (i * 2) u).setIfInBounds (i * 2 + 1) u').setIfInBounds (q * 2) v)[j]? = if j = q * 2 then some v else if j = i * 2 + 1 then some u' else if j = i * 2 then some u else cur[j]? := fun j u u' v => by
    rw [rv_get ⟨(.int .i64 (rvP m i P q).1), by rw [e2, if_neg (by omega), if_neg (by omega)]; exact cq.1⟩, e2]
  have e4 : ∀ j u u' v v', ((((cur.setIfInBounds (i * 2) u).setIfInBounds (i * 2 + 1) u').setIfInBounds (q * 2) v).setIfInBounds (q * 2 + 1) v')[j]? = if j = q * 2 + 1 then some v' else if j = q * 2 then some v else if j = i * 2 + 1 then some u' else if j = i * 2 then some u else cur[j]? := fun j u u' v v' => by
    rw [rv_get ⟨(.int .i64 (rvP m i P q).2), by rw [e3, if_neg (by omega), if_neg (by omega), if_neg (by omega)]; exact cq.2⟩, e3]
  rw [e4, e4]
  by_cases h1 : k = i
  · subst h1
    rw [if_neg (by omega), if_neg (by omega), if_neg (by omega), if_pos rfl, if_neg (by omega), if_neg (by omega), if_pos rfl]
    have : rvP m (k + 1) P k = P (m - 1 - k) := by unfold rvP; rw [if_pos (by omega)]
    rw [this]
    exact ⟨rfl, rfl⟩
  · by_cases h2 : k = q
    · subst h2
      rw [if_neg (by omega), if_pos rfl, if_pos rfl]
      have : rvP m (i + 1) P k = P (m - 1 - k) := by unfold rvP; rw [if_pos (by omega)]
      rw [this]
      exact ⟨rfl, rfl⟩
    · rw [if_neg (by omega), if_neg (by omega), if_neg (by omega), if_neg (by omega), if_neg (by omega), if_neg (by omega), if_neg (by omega), if_neg (by omega)]
      have : rvP m (i + 1) P k = rvP m i P k := by
        unfold rvP
        by_cases h3 : k < i ∨ m ≤ k + i
        · rw [if_pos h3, if_pos (by omega)]
        · rw [if_neg h3, if_neg (by omega)]
      rw [this]
      exact ck

set_option maxRecDepth 100000 in
set_option maxHeartbeats 4000000 in
theorem reverse_pairs (lo g m cap : Nat) (P : Nat → Int × Int) (w : World) (hS : RvS g m P w) (hm : m ≤ 1000000) (hlo : lo ≤ g) :
    Calls Try.prog 33 #[.slice (some ⟨g, 0, none⟩) m cap] w fun e w' => e = .returned (.tuple #[]) ∧ Row w' (some ⟨g, 0, none⟩) (prf (fun k => P (m - 1 - k)) m) ∧ Below lo w w' := by
  have HS0 := Lib.hid hS
  have HLo := Lib.hid hlo
  have Hm := Lib.hid hm
  obtain ⟨z, hz⟩ : ∃ z : Int, (m : Int) - 1 = z := ⟨_, rfl⟩
  have Hz := Lib.hid hz
  have hw : wrap64 ((m : Int) - 1) = z := by unfold wrap64; omega
  have hw2 : IntKind.i64.wrap ((m : Int) - 1) = z := by rw [wrapi (by omega) (by omega)]; exact hz
  clear hS hm hlo hz
  go_enter Try.func33, Try.ntmps33
  go_wp2_with fail
  clear hw hw2
  go_loopw [2, 3] (fun x y wr => ∃ (i : Nat) (j : Int), x = .int .i64 (i : Int) ∧ y = .int .i64 j ∧ Hid (j = (m : Int) - 1 - (i : Int) ∧ i ≤ m ∧ RvS g m (rvP m i P) wr ∧ Below lo w wr)) (fun x _ _ => m - (intOf x).toNat)
  case atStart =>
    refine ⟨0, z, rfl, rfl, Lib.hid ⟨by have := Hz.out; omega, Nat.zero_le _, ?_, Below.refl _ _⟩⟩
    obtain ⟨cur, h1, h2⟩ := HS0.out
    exact ⟨cur, h1, fun k hk => by rw [rvP_zero hk]; exact h2 k hk⟩
  case round =>
    obtain ⟨i, j, rfl, rfl, HH⟩ := hrel
    by_cases hlt : (i : Int) < j
    · obtain ⟨q, rfl⟩ : ∃ q : Nat, j = (q : Int) := ⟨j.toNat, by omega⟩
      have HB := Lib.hid HH.out.2.2.2
      have hq : i + q + 1 = m := by have := HH.out.1; have := HH.out.2.1; omega
      have hiq : i < q := by omega
      have HSw := Lib.hid (HH.out.2.2.1.swap hq hiq)
      obtain ⟨cur, hB, hc⟩ := HH.out.2.2.1
      have ci := hc i (by omega)
      have cq := hc q (by omega)
      have ei : rvP m i P i = P i := by unfold rvP; rw [if_neg (by omega)]
      have eq : rvP m i P q = P q := by unfold rvP; rw [if_neg (by omega)]
      rw [ei] at ci
      rw [eq] at cq
      rw [show m - 1 - i = q by omega, show m - 1 - q = i by omega] at HSw
      have a1 : wr.cell? ⟨g, i * 2, none⟩ = some (.int .i64 (P i).1) := (hB.cell _).trans ci.1
      have a2 : wr.cell? ⟨g, i * 2 + 1, none⟩ = some (.int .i64 (P i).2) := (hB.cell _).trans ci.2
      have b1 : wr.cell? ⟨g, q * 2, none⟩ = some (.int .i64 (P q).1) := (hB.cell _).trans cq.1
      have b2 : wr.cell? ⟨g, q * 2 + 1, none⟩ = some (.int .i64 (P q).2) := (hB.cell _).trans cq.2
      have f1 := hB.frozen (i * 2)
      have f2 := hB.frozen (i * 2 + 1)
      have f3 := hB.frozen (q * 2)
      have f4 := hB.frozen (q * 2 + 1)
      have hi2 : i < m := by omega
      have hq2 : q < m := by omega
      have HQ := Lib.hid (And.intro hq hiq)
      have ha1 : i + 1 ≤ 1048576 := by have := Hm.out; omega
      have ha2 : q ≤ 1048576 := by have := Hm.out; omega
      have ha3 : 1 ≤ q := by omega
      clear hB hc ci cq ei eq cur
      generalize (P i).1 = u1 at *
      generalize (P i).2 = u2 at *
      generalize (P q).1 = v1 at *
      generalize (P q).2 = v2 at *
      go_wp2_with fail
      go_big_region
      clear f1 f2 f3 f4 a1 a2 b1 b2
      have HB2 := Lib.hid (below_sets4g (g := g) HB.out HLo.out (i * 2) (i * 2 + 1) (q * 2) (q * 2 + 1) (.int .i64 v1) (.int .i64 v2) (.int .i64 u1) (.int .i64 u2))
      generalize ((((wr.setCell ⟨g, i * 2, none⟩ (.int .i64 v1)).setCell ⟨g, i * 2 + 1, none⟩ (.int .i64 v2)).setCell ⟨g, q * 2, none⟩ (.int .i64 u1)).setCell ⟨g, q * 2 + 1, none⟩ (.int .i64 u2)) = w9 at *
      go_wp2_with fail
      go_roundw
      case rel =>
        refine ⟨i + 1, (q : Int) - 1, by go_num, rfl, Lib.hid ⟨by have := HQ.out; omega, by have := HQ.out; omega, ?_, HB2.out.drew⟩⟩
        exact HSw.out.drew
      case measure => have := HQ.out; simp [intOf]; omega
    · have HE := Lib.hid (show Row wr (some ⟨g, 0, none⟩) (prf (fun k => P (m - 1 - k)) m) from by
        have h := HH.out.2.2.1.row
        rw [prf_congr (fun k hk => rvP_end hk (by have := HH.out.1; omega))] at h
        exact h)
      have HB := Lib.hid HH.out.2.2.2
      go_wp2_with fail
      go_end0
      exact ⟨rfl, HE.out, HB.out⟩
end Go.Proofs.Ytcdhpoikppfjkaa
