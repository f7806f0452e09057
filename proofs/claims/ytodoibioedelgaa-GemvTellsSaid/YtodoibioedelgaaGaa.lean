/-
Finite: are all numbers of a list finite, by the program and by the document. Conditions: the list has at most 2^20 numbers.
-/
import Derived.Test.YtodoibioedelgaaGt
import Derived.Test.YtodoibioedelgaaGn
import Derived.Test.YtodoibioedelgaaGz
import Derived.Test.YtodoibioedelgaaGs
set_option linter.unusedVariables false
set_option linter.unusedSimpArgs false
namespace Go.Proofs.Ytodoibioedelgaa
open Go.RowKit
attribute [local go_sem ↓] Go.wp_at_zero Go.wp_at_succ

theorem row_holds {w : World} {b o : Nat} {l : List Nat} (h : Row w (some ⟨b, o, none⟩) (f64s l)) : Holds w b o l := by
  intro i z hz
  rcases h with h0 | ⟨b', o', e, hc⟩
  · have : l = [] := by simpa [f64s] using h0
    subst this; simp at hz
  · injection e with e; injection e with e1 e2
    subst e1; subst e2
    exact hc i _ (by simp [f64s, hz])
theorem kind_fin2 (z : Nat) : (kindOf z != 0) = !Fl.fin z := by
  unfold kindOf Fl.fin
  rw [Bool.eq_iff_iff]
  simp only [bne_iff_ne, ne_eq, Bool.not_eq_true', decide_eq_false_iff_not]
  split
  · simp [*]
  · split <;> simp [*]
set_option maxHeartbeats 1000000 in
theorem rfin_any (A : Option Addr) (n c : Nat) (l : List Nat) (w : World) (hA : Row w A (f64s l)) (hW : Wds l) (hl : l.length = n) (hn : n < 1048576) :
    Calls Try.prog 23 #[.slice A n c] w fun e w' => e = .returned (.bool (l.all Fl.fin)) ∧ w = w' := by
  have HA := Lib.hid hA
  have HW := Lib.hid hW
  have Hl := Lib.hid hl
  clear hA hW hl
  go_enter Try.func23, Try.ntmps23
  go_wp2_with fail
  go_loop [3] (fun i => ∃ k : Nat, k ≤ n ∧ i = .int .i64 k ∧ (l.take k).all Fl.fin = true) (fun i => n - (intOf i).toNat)
  case atStart => exact ⟨0, Nat.zero_le _, rfl, by simp⟩
  case round =>
    obtain ⟨k, hk, rfl, ha⟩ := hrel
    have HAl := Lib.hid ha
    clear ha
    by_cases hlt : k < n
    · have hkl : k < l.length := by rw [Hl.out]; exact hlt
      obtain ⟨b, o, rfl, hc⟩ := HA.out.get0 hkl
      have hw := HW.out.at_ k hkl
      have hstep := all_take l k hkl
      rw [HAl.out] at hstep
      rw [getD_of_lt hkl] at hc
      have hkd := kind_fin2 l[k]
      obtain ⟨z, hz⟩ : ∃ z, l[k] = z := ⟨_, rfl⟩
      rw [hz] at hc hw hstep hkd
      have HS := Lib.hid hstep
      have HX := Lib.hid hw
      have hqc : (k : Int) < (n : Int) := by omega
      have hk1 : k + 1 ≤ 1048576 := by omega
      clear hstep hw hz hkl
      cases hf : Fl.fin z
      · rw [hf] at hkd
        have HF := Lib.hid hf
        clear hf
        go_wp2_with fail
        refine (parts_any z _ HX.out).mono ?_
        rintro e w' ⟨rfl, rfl⟩
        go_wp2_with fail
        go_ret
        refine ⟨ret_bool ?_, rfl⟩
        have h1 := HS.out
        rw [HF.out] at h1
        exact (all_of_take h1).symm
      · rw [hf] at hkd
        have HF := Lib.hid hf
        clear hf
        go_wp2_with fail
        refine (parts_any z _ HX.out).mono ?_
        rintro e w' ⟨rfl, rfl⟩
        go_wp2_with fail
        go_round
        case rel => exact ⟨k + 1, by omega, by go_num, by rw [HS.out, HF.out]; rfl⟩
        case measure => simp [intOf]; omega
    · obtain rfl : k = n := by omega
      have hqc : ¬ (k : Int) < (k : Int) := by omega
      go_wp2_with fail
      go_ret
      exact ⟨ret_bool (by rw [← HAl.out, List.take_of_length_le (by have := Hl.out; omega)]), rfl⟩
end Go.Proofs.Ytodoibioedelgaa
/-
Finite of a matrix, by the program and by the document; Clone of one that isn't right. Conditions: the matrix' list has at most 2^20 numbers.
-/
set_option linter.unusedVariables false
set_option linter.unusedSimpArgs false
set_option linter.unnecessarySimpa false
namespace Go.Proofs.Ytodoibioedelgaa
open Go.RowKit
attribute [local go_sem ↓] Go.wp_at_zero Go.wp_at_succ

@[go_sem] theorem run_field_A (r k : Int) (g n c : Nat) (w : World) : (Instr.field 40 (.agg #[.int .i64 r, .int .i64 k, .slice (some ⟨g, 0, none⟩) n c]) 2).run Try.prog w = .ok (.slice (some ⟨g, 0, none⟩) n c) w := by kernel_rfl

/-- Are all the matrix' numbers finite? -/
def finsB (l : List Nat) (o R C L : Nat) : Bool := (List.range R).all fun a => (List.range C).all fun b => Fl.fin (l.getD (o + a + b * L) 0)
theorem finsB_iff (l : List Nat) (o R C L : Nat) : finsB l o R C L = true ↔ ∀ a, a < R → ∀ b, b < C → Fl.fin (l.getD (o + a + b * L) 0) = true := by
  unfold finsB
  simp [List.all_eq_true]
theorem fins_cols {l : List Nat} {o R C L : Nat} : (colsL l o R L C).all Fl.fin = finsB l o R C L := by
  rw [Bool.eq_iff_iff, finsB_iff, List.all_eq_true]
  constructor
  · intro h a ha b hb
    have hk : b * R + a < (colsL l o R L C).length := by
      rw [colsL_length]
      have : (b + 1) * R ≤ C * R := Nat.mul_le_mul_right _ hb
      rw [Nat.add_mul] at this; omega
    rw [← colsL_getD l o R L ha hb, getD_of_lt hk]
    exact h _ (List.getElem_mem hk)
  · intro h x hx
    obtain ⟨k, hk, rfl⟩ := List.mem_iff_getElem.1 hx
    have hk2 := hk
    rw [colsL_length] at hk2
    have hR : 0 < R := Nat.pos_of_ne_zero (by rintro rfl; simp at hk2)
    have hb : k / R < C := Nat.div_lt_of_lt_mul (by rw [Nat.mul_comm]; exact hk2)
    have he : k / R * R + k % R = k := by rw [Nat.mul_comm]; exact Nat.div_add_mod k R
    have h1 := colsL_getD l o R L (Nat.mod_lt k hR) hb
    rw [he, getD_of_lt hk] at h1
    rw [h1]
    exact h _ (Nat.mod_lt k hR) _ hb
theorem fins_tab {l T : List Nat} {o R C L N : Nat} (h : Tab l o R C L N T) (hN : R * C = N) : T.all Fl.fin = finsB l o R C L := by
  rw [Bool.eq_iff_iff, finsB_iff, List.all_eq_true]
  constructor
  · intro hf a ha b hb
    have hk : a * C + b < T.length := by rw [h.1]; exact tab_lt ha hb
    rw [← tab_get h hN ha hb, getD_of_lt hk]
    exact hf _ (List.getElem_mem hk)
  · intro hf x hx
    obtain ⟨k, hk, rfl⟩ := List.mem_iff_getElem.1 hx
    have hk2 := hk
    rw [h.1] at hk2
    have hC : 0 < C := Nat.pos_of_ne_zero (by rintro rfl; simp at hk2)
    have hb : k / C < R := Nat.div_lt_of_lt_mul (by rw [Nat.mul_comm]; exact hk2)
    have he : k / C * C + k % C = k := by rw [Nat.mul_comm]; exact Nat.div_add_mod k C
    have h1 := tab_get h hN hb (Nat.mod_lt k hC)
    rw [he, getD_of_lt hk] at h1
    rw [h1]
    exact hf _ hb _ (Nat.mod_lt k hC)
theorem tab_wds {l T : List Nat} {o R C L N : Nat} (h : Tab l o R C L N T) (hN : R * C = N) (hW : Wds l) : Wds T := by
  intro x hx
  obtain ⟨k, hk, rfl⟩ := List.mem_iff_getElem.1 hx
  have hk2 := hk
  rw [h.1] at hk2
  have hC : 0 < C := Nat.pos_of_ne_zero (by rintro rfl; simp at hk2)
  have hb : k / C < R := Nat.div_lt_of_lt_mul (by rw [Nat.mul_comm]; exact hk2)
  have he : k / C * C + k % C = k := by rw [Nat.mul_comm]; exact Nat.div_add_mod k C
  have h1 := tab_get h hN hb (Nat.mod_lt k hC)
  rw [he, getD_of_lt hk] at h1
  rw [h1]
  exact getD_wds hW _

end Go.Proofs.Ytodoibioedelgaa
