/-
The document's at, ends, Minus, Abs, Sign. Conditions: the places lie within 2^40.
-/
import Derived.Test.YtbkbeglmfhaleaaGreatDoorZRdF
import Derived.Test.YtbkbeglmfhaleaaGreatDoorRdG
import Derived.BigQuiet
import Derived.Deep.QuietTactic
set_option linter.unusedVariables false
set_option linter.unusedSimpArgs false
namespace Go.Proofs.YtbkbeglmfhaleaaGreatDoor
open Go.RowKit
attribute [local go_sem ↓] Go.wp_at_zero Go.wp_at_succ

/-- Stores into a block that isn't one of ints don't touch the digits. -/
theorem Rd.far {w : World} {A : Option Addr} {n c : Nat} {L : List Nat} (h : Rd w A n c L) {g : Nat} {t : TypeId} {cs : Array Value} (hB : Blk w g t cs) (ht : t ≠ 3) (i : Nat) (u : Value) : Rd (w.setCell ⟨g, i, none⟩ u) A n c L := by
  refine ⟨h.1, h.2.1, ?_, h.2.2.2.1, fun b y e hl => (h.2.2.2.2 b y e hl).set_ _ _⟩
  cases L with
  | nil => exact .inl rfl
  | cons x L =>
    rcases h.2.2.1 with h0 | ⟨b, o, e, hc⟩
    · simp [ints] at h0
    · exact .inr ⟨b, o, e, fun j v hj => (cell_set ((h.2.2.2.2 b o e (by simp)).ne hB ht) u).trans (hc j v hj)⟩
/-- The cells of the document's number. -/
def dcells (neg : Bool) (A : Option Addr) (n c : Nat) (E : Int) : Array Value := #[.bool neg, .slice A n c, .int .i64 E]
theorem iwrap_in {z : Int} (h : z.natAbs ≤ 8796093022208) : IntKind.i64.wrap z = z := IntWalk.i64_in _ (by omega)
theorem wrap64_in {z : Int} (h : z.natAbs ≤ 8796093022208) : wrap64 z = z := by unfold wrap64; omega
theorem rdat_any (neg : Bool) (A : Option Addr) (n c : Nat) (l : List Nat) (E p : Int) (w : World) (h : Rd w A n c l) (hn : n ≤ 1099511627776) (hE : E.natAbs ≤ 1099511627776) (hp : p.natAbs ≤ 1099511627776) :
    Calls Tryz.prog 35 #[.agg #[.bool neg, .slice A n c, .int .i64 E], .int .i64 p] w fun e w' => e = .returned (.int .i64 (dat l E p : Int)) ∧ Below w.heap.size w w' := by
  have HB := Lib.hid ((Below.refl w.heap.size w).alloc (Nat.le_refl _) (.cells #[.bool neg, .slice A n c, .int .i64 E] 30))
  have hs1 : wrap64 (E + (n : Int)) = E + (n : Int) := wrap64_in (by omega)
  have hs2 : wrap64 (p - E) = p - E := wrap64_in (by omega)
  have hl := h.1
  by_cases h1 : p < E
  · have hd : dat l E p = 0 := by unfold dat; rw [if_pos (.inl h1)]
    rw [hd]
    have hb1 : decide (p < E) = true := by simpa using h1
    clear hd h hn hE hp hl h1 hs2
    go_enter Tryz.func35, Tryz.ntmps35
    go_wp2_with fail
    go_ret
    exact ⟨rfl, HB.out⟩
  · by_cases h2 : E + (n : Int) ≤ p
    · have hd : dat l E p = 0 := by unfold dat; rw [if_pos (.inr (by omega))]
      rw [hd]
      have hb1 : decide (p < E) = false := by simpa using h1
      have hb2 : decide (E + (n : Int) ≤ p) = true := by simpa using h2
      clear hd h hn hE hp hl h1 h2 hs2
      go_enter Tryz.func35, Tryz.ntmps35
      go_wp2_with fail
      go_ret
      exact ⟨rfl, HB.out⟩
    · obtain ⟨k, hk⟩ : ∃ k : Nat, p - E = (k : Int) := ⟨(p - E).toNat, by omega⟩
      have hkl : k < l.length := by omega
      obtain ⟨b, o, rfl, _, hcell0⟩ := h.2.2.1.at_ (ints_get l k hkl)
      have hcell := cell_below hcell0 HB.out
      have hd : dat l E p = l[k] := by
        unfold dat
        rw [if_neg (by omega), show (p - E).toNat = k by omega]
        simp [List.getD, hkl]
      rw [hd]
      have hb1 : decide (p < E) = false := by simpa using h1
      have hb2 : decide (E + (n : Int) ≤ p) = false := by simp; omega
      rw [hk] at hs2
      have hkn : (k : Int) < (n : Int) := by omega
      have HK := Lib.hid hk
      generalize l[k] = v at *
      clear hd h hn hE hp hl h1 h2 hcell0 hkl
      go_enter Tryz.func35, Tryz.ntmps35
      go_wp2_with fail
      go_ret
      exact ⟨rfl, HB.out⟩

theorem rminus_any (neg : Bool) (A : Option Addr) (n c : Nat) (E : Int) (w : World) :
    Calls Tryz.prog 16 #[.agg #[.bool neg, .slice A n c, .int .i64 E]] w fun e w' => e = .returned (.agg #[.bool (if n = 0 then neg else !neg), .slice A n c, .int .i64 E]) ∧ Below w.heap.size w w' := by
  by_cases h0 : n = 0
  · subst h0
    rw [if_pos rfl]
    go_enter Tryz.func16, Tryz.ntmps16
    go_wp2_with fail
    obtain ⟨q0, q1, q2⟩ := cells3 (Blk.new_ (w.alloc (.cells #[.bool neg, .slice A 0 c, .int .i64 E] 30)) 30 #[.bool neg, .slice A 0 c, .int .i64 E] (w.heap.size + 1) (by simp))
    exact bodyPost_ret (v := .agg #[.bool neg, .slice A 0 c, .int .i64 E]) (by simp [results, Tryz.results16, go_sem, q0, q1, q2]) rfl ⟨rfl, ((Below.refl w.heap.size w).alloc (Nat.le_refl _) (.cells #[.bool neg, .slice A 0 c, .int .i64 E] 30)).alloc (by simp) (.cells #[.bool neg, .slice A 0 c, .int .i64 E] 30)⟩
  · rw [if_neg h0]
    have hp : decide ((0 : Int) < (n : Int)) = true := by simp; omega
    have hp2 : decide (0 < n) = true := by simp; omega
    clear h0
    go_enter Tryz.func16, Tryz.ntmps16
    go_wp2_with fail
    obtain ⟨q0, q1, q2⟩ := cells3 (Blk.new_ (w.alloc (.cells #[.bool (!neg), .slice A n c, .int .i64 E] 30)) 30 #[.bool (!neg), .slice A n c, .int .i64 E] (w.heap.size + 1) (by simp))
    exact bodyPost_ret (v := .agg #[.bool (!neg), .slice A n c, .int .i64 E]) (by simp [results, Tryz.results16, go_sem, q0, q1, q2]) rfl ⟨rfl, ((Below.refl w.heap.size w).alloc (Nat.le_refl _) (.cells #[.bool (!neg), .slice A n c, .int .i64 E] 30)).alloc (by simp) (.cells #[.bool (!neg), .slice A n c, .int .i64 E] 30)⟩

theorem rabsd_any (neg : Bool) (A : Option Addr) (n c : Nat) (E : Int) (w : World) :
    Calls Tryz.prog 18 #[.agg #[.bool neg, .slice A n c, .int .i64 E]] w fun e w' => e = .returned (.agg #[.bool false, .slice A n c, .int .i64 E]) ∧ Below w.heap.size w w' := by
    go_enter Tryz.func18, Tryz.ntmps18
    go_wp2_with fail
    obtain ⟨q0, q1, q2⟩ := cells3 (Blk.new_ (w.alloc (.cells #[.bool false, .slice A n c, .int .i64 E] 30)) 30 #[.bool false, .slice A n c, .int .i64 E] (w.heap.size + 1) (by simp))
    exact bodyPost_ret (v := .agg #[.bool false, .slice A n c, .int .i64 E]) (by simp [results, Tryz.results18, go_sem, q0, q1, q2]) rfl ⟨rfl, ((Below.refl w.heap.size w).alloc (Nat.le_refl _) (.cells #[.bool false, .slice A n c, .int .i64 E] 30)).alloc (by simp) (.cells #[.bool false, .slice A n c, .int .i64 E] 30)⟩

theorem rsignd_any (neg : Bool) (A : Option Addr) (n c : Nat) (E : Int) (w : World) :
    Calls Tryz.prog 27 #[.agg #[.bool neg, .slice A n c, .int .i64 E]] w fun e w' => e = .returned (.int .i64 (if n = 0 then 0 else if neg = true then -1 else 1)) ∧ Below w.heap.size w w' := by
  have HB := Lib.hid ((Below.refl w.heap.size w).alloc (Nat.le_refl _) (.cells #[.bool neg, .slice A n c, .int .i64 E] 30))
  by_cases h0 : n = 0
  · rw [if_pos h0]
    have ht : ((n : Int) == 0) = true := by simp [h0]
    clear h0
    go_enter Tryz.func27, Tryz.ntmps27
    go_wp2_with fail
    go_ret
    exact ⟨rfl, HB.out⟩
  · rw [if_neg h0]
    have ht : ((n : Int) == 0) = false := by simp; omega
    clear h0
    cases neg
    · go_enter Tryz.func27, Tryz.ntmps27
      go_wp2_with fail
      go_ret
      exact ⟨rfl, HB.out⟩
    · go_enter Tryz.func27, Tryz.ntmps27
      go_wp2_with fail
      go_ret
      exact ⟨rfl, HB.out⟩
end Go.Proofs.YtbkbeglmfhaleaaGreatDoor
