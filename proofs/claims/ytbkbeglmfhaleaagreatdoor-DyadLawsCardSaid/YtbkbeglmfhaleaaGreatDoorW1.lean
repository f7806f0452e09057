/-
Whole numbers: trim, wholeOf, sign. Conditions: as each says.
-/
import Derived.Test.YtbkbeglmfhaleaaGreatDoorMem
import Derived.WalkLawsBesides
import Derived.WalkSpells
import Derived.LoopTactic
import Derived.Outline
import Derived.Deep.QuietTactic
import Derived.BigQuiet
import Derived.RegionTactic
set_option linter.unusedVariables false
namespace Go.Proofs.YtbkbeglmfhaleaaGreatDoor
open Go.RowKit

theorem sign_val {z : Int} {n : Nat} (hn : n = wl z) {s : Int} (h : (s = 0 ∧ ((n : Int) == 0) = true) ∨ (((n : Int) == 0) = false ∧ ng z = true ∧ s = -1) ∨ (((n : Int) == 0) = false ∧ ng z = false ∧ s = 1)) : s = z.sign := by
  have h0 := wl_zero z
  rcases h with ⟨rfl, h⟩ | ⟨h, hz, rfl⟩ | ⟨h, hz, rfl⟩
  · have : z = 0 := h0.1 (by simp at h; omega)
    subst this; rfl
  · have : z < 0 := by simpa [ng] using hz
    exact (Int.sign_eq_neg_one_of_neg this).symm
  · have h1 : ¬ z < 0 := by simpa [ng] using hz
    have h2 : ¬ z = 0 := fun e => by have := h0.2 e; simp at h; omega
    exact (Int.sign_eq_one_of_pos (by omega)).symm
theorem ret_i {a b : Int} {k : IntKind} (h : a = b) : Ending.returned (.int k a) = .returned (.int k b) := by rw [h]

theorem sign_any (A : Option Addr) (n c : Nat) (z : Int) (w : World) (hn : n = wl z) :
    Calls Tryz.prog 65 #[.agg #[.bool (ng z), .slice A n c]] w fun e w' => e = .returned (.int .i64 z.sign) ∧ Below w.heap.size w w' := by
  have HN := Lib.hid hn
  clear hn
  go_enter Tryz.func65, Tryz.ntmps65
  go_wp2
  all_goals
    go_ret
    exact ⟨ret_i (sign_val HN.out (by simp_all)), (Below.refl _ _).alloc (Nat.le_refl _) _⟩

/-- How many digits are left. -/
def tl (l : List Nat) : Nat := (digs Q (ofd Q l)).length
theorem tl_take {l : List Nat} (h : Digs Q l) (k : Nat) (hk : k ≤ l.length) (hz : ∀ i, k ≤ i → i < l.length → l.getD i 0 = 0) (hl : k = 0 ∨ l.getD (k - 1) 0 ≠ 0) : tl l = k ∧ l.take k = digs Q (ofd Q l) := by
  have e := take_trim Q_two h k hk hz hl
  refine ⟨?_, e⟩
  unfold tl
  rw [← e, List.length_take]; omega
theorem getD_of {l : List Nat} {i : Nat} (h : i < l.length) : l.getD i 0 = l[i] := by simp [List.getD, h]

set_option maxHeartbeats 400000 in
theorem trim_any (b o n c : Nat) (l : List Nat) (w : World) (hn : n = l.length) (hc : n ≤ c) (hb : n ≤ 1152921504606846976) (hD : Digs Q l) (hr : Row w (some ⟨b, o, none⟩) (u64s l)) :
    Calls Tryz.prog 73 #[.slice (some ⟨b, o, none⟩) n c] w fun e w' => e = .returned (.slice (some ⟨b, o, none⟩) (tl l) (tl l)) ∧ w = w' := by
  have HN := Lib.hid hn
  have HD := Lib.hid hD
  have HR := Lib.hid hr
  clear hn hD hr
  go_enter Tryz.func73, Tryz.ntmps73
  go_wp2
  go_loop [3] (fun i => ∃ k : Nat, k ≤ n ∧ i = .int .i64 k ∧ ∀ j, k ≤ j → j < l.length → l.getD j 0 = 0) (fun i => (intOf i).toNat)
  case atStart => exact ⟨n, Nat.le_refl _, rfl, fun j h1 h2 => by have := HN.out; omega⟩
  case round =>
    obtain ⟨k, hk, rfl, hz⟩ := hrel
    have HZ := Lib.hid hz
    clear hz
    by_cases h0 : k = 0
    · subst h0
      have ht := Lib.hid (tl_take HD.out 0 (Nat.zero_le _) HZ.out (.inl rfl))
      go_wp2
      go_ret
      refine ⟨?_, rfl⟩
      rw [ht.out.1]
      rfl
    · have hpos : 0 < k := by omega
      have hlt : k - 1 < l.length := by have := HN.out; omega
      obtain ⟨b', o', e, _, hcell⟩ := HR.out.at_ (u64s_get l (k - 1) hlt)
      injection e with e
      injection e with e1 e2
      subst e1 e2
      have hget := Lib.hid (getD_of hlt)
      generalize hd : l[k - 1] = d at *
      clear hd hlt
      have hc1 : (((k : Int) - 1).toNat) = k - 1 := by omega
      by_cases hd0 : d = 0
      · have ht : ((d : Int) == 0) = true := by simp [hd0]
        have HD0 := Lib.hid hd0
        clear hd0 h0
        go_wp2
        go_round
        case rel => 
          refine ⟨k - 1, by omega, by rw [show ((k - 1 : Nat) : Int) = (k : Int) - 1 by omega], fun j h1 h2 => ?_⟩
          by_cases hj : j = k - 1
          · subst hj; rw [hget.out, HD0.out]
          · exact HZ.out j (by omega) h2
        case measure => simp [intOf]; omega
      · have ht : ((d : Int) == 0) = false := by simp; omega
        have htk := Lib.hid (tl_take HD.out k (by have := HN.out; omega) HZ.out (.inr (by rw [hget.out]; exact hd0)))
        clear hd0 h0
        go_wp2
        go_ret
        refine ⟨?_, rfl⟩
        rw [htk.out.1]
        rfl
theorem row_take {w : World} {A : Option Addr} {l : List Nat} (h : Row w A (u64s l)) (k : Nat) : Row w A (u64s (l.take k)) := by
  rcases h with h | ⟨b, o, e, hc⟩
  · refine .inl ?_
    have : l = [] := by simpa [u64s] using h
    subst this; simp [u64s]
  · refine .inr ⟨b, o, e, fun i v hi => hc i v ?_⟩
    obtain ⟨hl, hv⟩ := u64s_get? hi
    rw [List.length_take] at hl
    rw [u64s_get l i (by omega), hv]
    simp
theorem tl_eq {l : List Nat} (h : Digs Q l) : l.take (tl l) = digs Q (ofd Q l) := by
  have hs := ofd_take_drop Q l
  -- the place behind the last digit that isn't 0
  have hex : ∃ k, k ≤ l.length ∧ (∀ i, k ≤ i → i < l.length → l.getD i 0 = 0) ∧ (k = 0 ∨ l.getD (k - 1) 0 ≠ 0) := by
    have : ∀ m, m ≤ l.length → (∀ i, m ≤ i → i < l.length → l.getD i 0 = 0) → ∃ k, k ≤ l.length ∧ (∀ i, k ≤ i → i < l.length → l.getD i 0 = 0) ∧ (k = 0 ∨ l.getD (k - 1) 0 ≠ 0) := by
      intro m
      induction m with
      | zero => intro _ hz; exact ⟨0, Nat.zero_le _, hz, .inl rfl⟩
      | succ m ih =>
        intro hm hz
        by_cases h0 : l.getD m 0 = 0
        · exact ih (by omega) (fun i h1 h2 => by
            by_cases e : i = m
            · subst e; exact h0
            · exact hz i (by omega) h2)
        · exact ⟨m + 1, hm, hz, .inr (by simpa using h0)⟩
    exact this l.length (Nat.le_refl _) (fun i h1 h2 => by omega)
  obtain ⟨k, h1, h2, h3⟩ := hex
  obtain ⟨e1, e2⟩ := tl_take h k h1 h2 h3
  rw [e1, e2]
/-- What trim left is the number's size. -/
theorem Wh.trimmed {w : World} {A : Option Addr} {l : List Nat} {z : Int} (h : Digs Q l) (hr : Row w A (u64s l)) (hz : ofd Q l = z.natAbs) : Wh w A (tl l) (tl l) z := by
  refine ⟨?_, Nat.le_refl _, ?_⟩
  · unfold tl wl dig; rw [hz]
  · have := row_take hr (tl l)
    rw [tl_eq h, hz] at this
    exact this
end Go.Proofs.YtbkbeglmfhaleaaGreatDoor
