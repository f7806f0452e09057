/-
Finite: are all numbers of a list finite, by the program and by the document. Conditions: the list has at most 2^20 numbers.
-/
import Derived.Test.YtelpdbkkefpjhaaZFSmD
import Derived.Test.YtelpdbkkefpjhaaFNumC
set_option linter.unusedVariables false
set_option linter.unusedSimpArgs false
namespace Go.Proofs.Ytelpdbkkefpjhaa
open Go.RowKit
attribute [local go_sem ↓] Go.wp_at_zero Go.wp_at_succ

theorem row_holds {w : World} {b o : Nat} {l : List Nat} (h : Row w (some ⟨b, o, none⟩) (f64s l)) : Holds w b o l := by
  intro i z hz
  rcases h with h0 | ⟨b', o', e, hc⟩
  · have : l = [] := by simpa [f64s] using h0
    subst this; simp at hz
  · injection e with e; injection e with e1 e2
    subst e1; subst e2
    exact hc i _ (by simp [f64s, hz])
theorem nfin_any (A : Option Addr) (n c : Nat) (l : List Nat) (w : World) (hA : Row w A (f64s l)) (hW : Wds l) (hl : l.length = n) (hn : n < 1048576) :
    Calls Try.prog 53 #[.slice A n c] w fun e w' => e = .returned (.bool (l.all Fl.fin)) ∧ w = w' := by
  cases A with
  | some a =>
    rcases hA with h0 | ⟨b, o, e, hc⟩
    · obtain rfl : l = [] := by simpa [f64s] using h0
      obtain rfl : n = 0 := hl.symm
      go_enter Try.func53, Try.ntmps53
      go_wp2
      go_loop [7] (fun i => ∃ k : Nat, k = 0 ∧ i = .int .i64 k) (fun i => 0)
      case atStart => exact ⟨0, rfl, rfl⟩
      case round =>
        obtain ⟨k, rfl, rfl⟩ := hrel
        go_wp2
        go_ret
        exact ⟨rfl, rfl⟩
    · obtain rfl : a = ⟨b, o, none⟩ := by simpa using e
      have := finite_any b o c l w (by omega) hW (row_holds (.inr ⟨b, o, rfl, hc⟩))
      rw [hl] at this
      exact this
  | none =>
    rcases hA with h | ⟨b, o, h, _⟩
    · obtain rfl : l = [] := by simpa [f64s] using h
      obtain rfl : n = 0 := hl.symm
      exact finite_nil c w
    · cases h
theorem kind_fin2 (z : Nat) : (kindOf z != 0) = !Fl.fin z := by
  unfold kindOf Fl.fin
  rw [Bool.eq_iff_iff]
  simp only [bne_iff_ne, ne_eq, Bool.not_eq_true', decide_eq_false_iff_not]
  split
  · simp [*]
  · split <;> simp [*]
set_option maxHeartbeats 1000000 in
theorem rfin_any (A : Option Addr) (n c : Nat) (l : List Nat) (w : World) (hA : Row w A (f64s l)) (hW : Wds l) (hl : l.length = n) (hn : n < 1048576) :
    Calls Try.prog 11 #[.slice A n c] w fun e w' => e = .returned (.bool (l.all Fl.fin)) ∧ w = w' := by
  have HA := Lib.hid hA
  have HW := Lib.hid hW
  have Hl := Lib.hid hl
  clear hA hW hl
  go_enter Try.func11, Try.ntmps11
  go_wp2_with fail
  go_loop [3] (fun i => ∃ k : Nat, k ≤ n ∧ i = .int .i64 k ∧ (l.take k).all Fl.fin = true) (fun i => n - (intOf i).toNat)
  case atStart => exact ⟨0, Nat.zero_le _, rfl, by simp⟩
  case round =>
    obtain ⟨k, hk, rfl, ha⟩ := hrel
    have HAl := Lib.hid ha
    clear ha
    by_cases hlt : k < n
    · have hkl : k < l.length := by rw [Hl.out]; exact hlt
      obtain ⟨b, o, rfl, hc⟩ := HA.out.get0 hkl
      have hw := HW.out.at_ k hkl
      have hstep := all_take l k hkl
      rw [HAl.out] at hstep
      rw [getD_of_lt hkl] at hc
      have hkd := kind_fin2 l[k]
      obtain ⟨z, hz⟩ : ∃ z, l[k] = z := ⟨_, rfl⟩
      rw [hz] at hc hw hstep hkd
      have HS := Lib.hid hstep
      have HX := Lib.hid hw
      have hqc : (k : Int) < (n : Int) := by omega
      have hk1 : k + 1 ≤ 1048576 := by omega
      clear hstep hw hz hkl
      cases hf : Fl.fin z
      · rw [hf] at hkd
        have HF := Lib.hid hf
        clear hf
        go_wp2_with fail
        refine (parts_any z _ HX.out).mono ?_
        rintro e w' ⟨rfl, rfl⟩
        go_wp2_with fail
        go_ret
        refine ⟨ret_bool ?_, rfl⟩
        have h1 := HS.out
        rw [HF.out] at h1
        exact (all_of_take h1).symm
      · rw [hf] at hkd
        have HF := Lib.hid hf
        clear hf
        go_wp2_with fail
        refine (parts_any z _ HX.out).mono ?_
        rintro e w' ⟨rfl, rfl⟩
        go_wp2_with fail
        go_round
        case rel => exact ⟨k + 1, by omega, by go_num, by rw [HS.out, HF.out]; rfl⟩
        case measure => simp [intOf]; omega
    · obtain rfl : k = n := by omega
      have hqc : ¬ (k : Int) < (k : Int) := by omega
      go_wp2_with fail
      go_ret
      exact ⟨ret_bool (by rw [← HAl.out, List.take_of_length_le (by have := Hl.out; omega)]), rfl⟩
end Go.Proofs.Ytelpdbkkefpjhaa
