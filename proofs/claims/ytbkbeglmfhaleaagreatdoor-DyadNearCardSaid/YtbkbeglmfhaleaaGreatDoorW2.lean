/-
Whole numbers: wholeOf, width, window, minus. Conditions: as each says.
-/
import Derived.Test.YtbkbeglmfhaleaaGreatDoorW1
import Derived.Test.YtbkbeglmfhaleaaGreatDoorLen
import Derived.Deep.RegionHeld3
import Derived.Deep.DrawnRows
set_option linter.unusedVariables false
namespace Go.Proofs.YtbkbeglmfhaleaaGreatDoor
open Go.RowKit
attribute [local go_sem ↓] Go.wp_at_zero Go.wp_at_succ

theorem bcell {W w1 : World} (hb : Below W.heap.size W w1) : (∀ b o, b < W.heap.size → w1.cell? ⟨b, o, none⟩ = W.cell? ⟨b, o, none⟩) ∧ (∀ b o, b < W.heap.size → w1.frozen? ⟨b, o, none⟩ = W.frozen? ⟨b, o, none⟩) :=
  ⟨fun b o h => hb.cell (p := ⟨b, o, none⟩) h, fun b o h => hb.frozen (p := ⟨b, o, none⟩) h⟩

theorem abs_word (k : Int) (h0 : -9223372036854775808 ≤ k) (h1 : k ≤ 9223372036854775807) :
    (k < 0 → IntKind.u64.wrap (-IntKind.u64.wrap k) = (k.natAbs : Int)) ∧ (¬ k < 0 → IntKind.u64.wrap k = (k.natAbs : Int)) := by
  constructor <;> intro h <;> simp only [IntKind.wrap_u64] <;> omega
theorem one_word (k : Int) (h0 : -9223372036854775808 ≤ k) (h1 : k ≤ 9223372036854775807) : Digs Q [k.natAbs] ∧ ofd Q [k.natAbs] = k.natAbs := by
  refine ⟨Digs.cons ?_ (Digs.nil _), by simp [ofd]⟩
  rw [Q_val]; omega
theorem row_new (w : World) (t : TypeId) (l : List Nat) (g : Nat) (hg : w.heap.size = g) : Row (w.alloc (.cells (u64s l).toArray t)) (some ⟨g, 0, none⟩) (u64s l) := by
  subst hg
  refine .inr ⟨_, _, rfl, fun i v hi => ?_⟩
  rw [Nat.zero_add, (Blk.new w t _).cell i]
  simpa using hi
theorem u64s_one (m : Nat) : (u64s [m]).toArray = #[.int .u64 (m : Int)] := rfl
theorem ret_agg2 {a a' : Bool} {A A' : Option Addr} {n n' c c' : Nat} (h1 : a = a') (h2 : A = A') (h3 : n = n') (h4 : c = c') :
    Ending.returned (.agg #[.bool a, .slice A n c]) = .returned (.agg #[.bool a', .slice A' n' c']) := by rw [h1, h2, h3, h4]

theorem RetW.mk_ {z : Int} {w w' : World} {a : Bool} {A : Option Addr} {n c : Nat} (ha : a = ng z) (h : Wh w' A n c z) (hb : Below w.heap.size w w') : RetW z w (.returned (.agg #[.bool a, .slice A n c])) w' := by
  subst ha; exact ⟨A, n, c, rfl, h, hb⟩

theorem trim_one (m : Nat) (k : Int) (hk : k.natAbs = m) (h0 : -9223372036854775808 ≤ k) (h1 : k ≤ 9223372036854775807) :
    (∀ (w : World) (t : TypeId) (g : Nat), w.heap.size = g → Calls Tryz.prog 73 #[.slice (some ⟨g, 0, none⟩) 1 1] (w.alloc (.cells #[.int .u64 (m : Int)] t)) fun e w' => e = .returned (.slice (some ⟨g, 0, none⟩) (tl [m]) (tl [m])) ∧ (w.alloc (.cells #[.int .u64 (m : Int)] t)) = w') ∧
      ∀ (w : World) (t : TypeId) (g : Nat), w.heap.size = g → Wh (w.alloc (.cells #[.int .u64 (m : Int)] t)) (some ⟨g, 0, none⟩) (tl [m]) (tl [m]) k := by
  have ho := one_word k h0 h1
  rw [hk] at ho
  refine ⟨fun w t g hg => ?_, fun w t g hg => ?_⟩
  · have hr := row_new w t [m] g hg
    rw [u64s_one] at hr
    exact trim_any g 0 1 1 [m] _ rfl (Nat.le_refl _) (by omega) ho.1 hr
  · have hr := row_new w t [m] g hg
    rw [u64s_one] at hr
    exact Wh.trimmed ho.1 hr (by rw [ho.2, hk])

theorem wholeOf_any (k : Int) (w : World) (h0 : -9223372036854775808 ≤ k) (h1 : k ≤ 9223372036854775807) :
    Calls Tryz.prog 55 #[.int .i64 k] w (RetW k w) := by
  obtain ⟨m, hm⟩ : ∃ m, k.natAbs = m := ⟨_, rfl⟩
  have ha := abs_word k h0 h1
  rw [hm] at ha
  have HA := Lib.hid ha
  have HT := Lib.hid (trim_one m k hm h0 h1)
  generalize tl [m] = t at HT
  clear hm ha
  by_cases hk : k < 0
  · have HG := Lib.hid (show true = ng k by simp [ng, hk])
    go_enter Tryz.func55, Tryz.ntmps55
    go_wp2_with fail
    rw [HA.out.1 hk]
    refine (HT.out.1 _ _ _ (by simp)).mono ?_
    rintro e w1 ⟨rfl, rfl⟩
    go_wp2_with fail
    exact bodyPost_ret (v := .agg #[.bool true, .slice (some ⟨w.heap.size + 1, 0, none⟩) t t]) (by simp [results, Tryz.results55, go_sem]) rfl
      (RetW_def _ _ _ _ _ _ _ HG.out (HT.out.2 _ _ _ (by simp)) (((Below.refl _ _).alloc (Nat.le_refl _) _).alloc (by simp) _))
  · have hkm : k = m := by have := HA.out.2 (by omega); rw [IntKind.wrap_u64] at this; omega
    subst hkm
    have HG := Lib.hid (show false = ng (m : Int) by simp [ng])
    have hd : decide ((m : Int) < 0) = false := by simp
    clear hk HA
    go_enter Tryz.func55, Tryz.ntmps55
    go_wp2_with fail
    refine (HT.out.1 _ _ _ (by simp)).mono ?_
    rintro e w1 ⟨rfl, rfl⟩
    go_wp2_with fail
    exact bodyPost_ret (v := .agg #[.bool false, .slice (some ⟨w.heap.size + 1, 0, none⟩) t t]) (by simp [results, Tryz.results55, go_sem]) rfl
      (RetW_def _ _ _ _ _ _ _ HG.out (HT.out.2 _ _ _ (by simp)) (((Below.refl _ _).alloc (Nat.le_refl _) _).alloc (by simp) _))

theorem ng_neg (z : Int) : decide (0 < z) = ng (-z) := by unfold ng; congr 1; rw [eq_iff_iff]; omega

theorem minus_any (A : Option Addr) (n c : Nat) (z : Int) (w : World) (hn : n = wl z) :
    Calls Tryz.prog 46 #[.agg #[.bool (ng z), .slice A n c]] w fun e w' => e = .returned (.agg #[.bool (ng (-z)), .slice A n c]) ∧ Below w.heap.size w w' := by
  have H := Lib.hid hn
  clear hn
  go_enter Tryz.func46, Tryz.ntmps46
  go_wp2_with fail
  go_region_held3 (fun w' => w'.cell? ⟨w.heap.size, 0, none⟩ = some (.bool (ng z)) ∧ w'.cell? ⟨w.heap.size, 1, none⟩ = some (.slice A n c)) (first | go_keep | exact ⟨cell_below (by simp) hb, cell_below (by simp) hb⟩)
    ((go_at_call 65; refine (sign_any A n c z _ H.out).mono ?_; rintro e w1 ⟨rfl, hb⟩; obtain ⟨hc, hf⟩ := bcell hb; have hz := hb.size; skip))
  all_goals
    go_wp2_with fail
    have hB := ((Blk.new_ (w.alloc (.cells #[.bool (ng z), .slice A n c] 35)) 35 #[.bool false, .slice none 0 0] (w.heap.size + 1) (by simp)).drew.below hb (by simp)).store2 (.bool (decide (0 < z))) (.slice A n c)
    have h0 := hB.cell 0
    have h1 := hB.cell 1
    refine bodyPost_ret (v := .agg #[.bool (ng (-z)), .slice A n c]) (by simp [results, Tryz.results46, go_sem, h0, h1, ← ng_neg]) rfl ⟨rfl, ?_⟩
    exact ((((Below.refl _ _).alloc (Nat.le_refl _) _).alloc (by simp) _).drew.trans (hb.mono (by simp; omega))).setCell (by simp) _ |>.setCell (by simp) _
end Go.Proofs.YtbkbeglmfhaleaaGreatDoor
