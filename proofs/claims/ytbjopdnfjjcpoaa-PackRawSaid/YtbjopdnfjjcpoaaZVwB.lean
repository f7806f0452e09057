/-
Lists of floats: the document's Same and All, where all are the same. Conditions: the words are below 2^64.
-/
import Derived.Test.YtbjopdnfjjcpoaaVad
import Derived.Deep.RegionHeld3
import Derived.Deep.DrawnRows
import Derived.Deep.DeepCutAuto
import Derived.Deep.CutBlock
import Derived.Deep.OwnRows
import Derived.IntWalk
set_option linter.unusedVariables false
namespace Go.Proofs.Ytbjopdnfjjcpoaa
open Go.RowKit
attribute [local go_sem ↓] Go.wp_at_zero Go.wp_at_succ

@[go_sem] theorem run_store_float (P : Program) (w : World) (a : Addr) (m : Mode) (k : FloatKind) (b : Nat) : (store a (.float k b) m).run P w = stored P w a (.float k b) m := run_store P w a _ m rfl

theorem kind_two (x : Nat) : (kindOf x == 2) = Fl.nan x := by
  unfold kindOf Fl.nan
  rw [Bool.eq_iff_iff, beq_iff_eq, decide_eq_true_eq]
  split
  · omega
  · split <;> omega

theorem rsame_v (a b : Nat) (w : World) (ha : a < 18446744073709551616) (hb : b < 18446744073709551616) :
    Calls Try.prog 17 #[.float .f64 a, .float .f64 b] w fun e w' => e = .returned (.bool (sameB a b)) ∧ w = w' := by
  have ka := kind_two a
  have kb := kind_two b
  have hc : (((a : Int) == (b : Int)) = true ∧ sameB a b = true) ∨ (((a : Int) == (b : Int)) = false ∧ ((Fl.nan a = true ∧ sameB a b = Fl.nan b) ∨ (Fl.nan a = false ∧ sameB a b = false))) := by
    by_cases h : a = b
    · exact .inl ⟨by simp [h], by simp [sameB, h]⟩
    · refine .inr ⟨by simp; omega, ?_⟩
      cases hn : Fl.nan a
      · exact .inr ⟨rfl, by simp [sameB, h, hn]⟩
      · exact .inl ⟨rfl, by simp [sameB, h, hn]⟩
  rcases hc with ⟨h1, h2⟩ | ⟨h1, ⟨h3, h2⟩ | ⟨h3, h2⟩⟩
  all_goals
    rw [h2]
    try rw [h3] at ka
    clear h2
    try clear h3
    go_enter Try.func17, Try.ntmps17
    go_wp2_with fail
    refine (parts_any a _ ha).mono ?_
    rintro e w' ⟨rfl, rfl⟩
    go_wp2_with fail
    refine (parts_any b _ hb).mono ?_
    rintro e w' ⟨rfl, rfl⟩
    go_wp2
    go_ret
    exact ⟨rfl, rfl⟩
theorem sameB_refl (a : Nat) : sameB a a = true := by simp [sameB]

/-- Two lists of the same numbers. -/
def Alike (x y : List Nat) : Prop := x.length = y.length ∧ ∀ (i : Nat) (h : i < x.length) (h' : i < y.length), sameB x[i] y[i] = true
theorem Alike.refl (x : List Nat) : Alike x x := ⟨rfl, fun i _ _ => sameB_refl _⟩

theorem rall_any (A B : Option Addr) (c d : Nat) (x y : List Nat) (w : World) (hx : Wds x) (hy : Wds y) (hA : Row w A (f64s x)) (hB : Row w B (f64s y)) (hl : x.length < 9223372036854775808) (h : Alike x y) :
    Calls Try.prog 12 #[.slice A x.length c, .slice B y.length d] w fun e w' => e = .returned (.bool true) ∧ Below w.heap.size w w' := by
  have hxy := h.1
  generalize hn : x.length = n at *
  have hn' : y.length = n := hxy.symm
  rw [hn']
  have HN := Lib.hid hn
  have HN' := Lib.hid hn'
  have HA := Lib.hid hA
  have HB := Lib.hid hB
  have HX := Lib.hid hx
  have HY := Lib.hid hy
  have HL := Lib.hid h
  clear hn hn' hA hB hx hy h hxy
  go_enter Try.func12, Try.ntmps12
  go_wp2
  go_loopw [5] (fun i wr => ∃ k : Nat, k ≤ n ∧ i = .int .i64 k ∧ Below w.heap.size w wr) (fun i _ => n - (intOf i).toNat)
  case atStart => exact ⟨0, Nat.zero_le _, rfl, Below.refl _ _⟩
  case round =>
    obtain ⟨k, hk, rfl, hbl⟩ := hrel
    have HBl := Lib.hid hbl
    clear hbl
    by_cases hlt : k < n
    · have hx1 : k < x.length := by rw [HN.out]; exact hlt
      have hy1 : k < y.length := by rw [HN'.out]; exact hlt
      obtain ⟨b, o, rfl, _, hcell⟩ := HA.out.at_ (f64s_get x k hx1)
      obtain ⟨b', o', rfl, _, hcell'⟩ := HB.out.at_ (f64s_get y k hy1)
      have HW := Lib.hid (HX.out.at_ k hx1)
      have HW' := Lib.hid (HY.out.at_ k hy1)
      have HS := Lib.hid (HL.out.2 k hx1 hy1)
      generalize x[k] = u at *
      generalize y[k] = v at *
      have hc1 := cell_below hcell HBl.out
      have hc2 := cell_below hcell' HBl.out
      clear hcell hcell'
      go_wp2_with fail
      go_region_held3 (fun w' => w'.cell? ⟨b, o + k, none⟩ = some (.float .f64 u) ∧ w'.cell? ⟨b', o' + k, none⟩ = some (.float .f64 v))
        (first | go_keep | exact ⟨hc1, hc2⟩)
        ((go_at_call 17; refine (rsame_v u v _ HW.out HW'.out).mono ?_; rw [HS.out]; rintro e w1 ⟨rfl, rfl⟩; skip))
      go_wp2_with fail
      go_roundw
      case rel => exact ⟨k + 1, by omega, by go_num, HBl.out.drew⟩
      case measure => simp [intOf]; omega
    · go_wp2
      go_ret
      exact ⟨rfl, HBl.out⟩
end Go.Proofs.Ytbjopdnfjjcpoaa
