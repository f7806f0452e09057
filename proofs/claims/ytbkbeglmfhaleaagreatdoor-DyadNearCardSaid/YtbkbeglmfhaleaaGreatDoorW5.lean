/-
Whole numbers: plus, evens. Conditions: as each says; the tables of the library are as its text lays them.
-/
import Derived.Test.YtbkbeglmfhaleaaGreatDoorSum
import Derived.Shelf.Spec.TrailingZeros
import Derived.Lib.LaidTab
import Derived.Lib.ItoaNum
set_option linter.unusedVariables false
namespace Go.Proofs.YtbkbeglmfhaleaaGreatDoor
open Go.RowKit
attribute [local go_sem ↓] Go.wp_at_zero Go.wp_at_succ

/-- The tables of the library that are read lie as its text lays them. -/
def Glob (w : World) : Prop :=
  (∀ j, j < Lib.deBruijn64tab.length → w.cell? ⟨3, j, none⟩ = some (.int .u8 ((Lib.deBruijn64tab.getD j 0 : Nat) : Int))) ∧
    ∃ t r, w.heap[(4 : Nat)]? = some (.cells (Lib.pow10Tab.map fun z => Value.int .u64 z).toArray t r)
theorem Glob.below {w w' : World} (h : Glob w) (hb : Below w.heap.size w w') : Glob w' := by
  refine ⟨fun j hj => cell_below (h.1 j hj) hb, ?_⟩
  obtain ⟨t, r, e⟩ := h.2
  refine ⟨t, r, ?_⟩
  rw [hb.block _ ?_]
  · exact e
  · rcases Nat.lt_or_ge (4 : Nat) w.heap.size with hl | hl
    · exact hl
    · rw [Array.getElem?_eq_none hl] at e; cases e
theorem Glob.drew {w : World} (h : Glob w) : Glob w.drew := h
theorem Glob.tab {w : World} (h : Glob w) : Lib.TabIs Tryz.prog w "internal/strconv.uint64pow10" .u64 Lib.pow10Tab := by
  obtain ⟨t, r, e⟩ := h.2
  have hg : Tryz.prog.globalNamed "internal/strconv.uint64pow10" = some 4 := by kernel_rfl
  unfold Lib.TabIs World.var?
  rw [hg]
  simp only [Option.bind_some]
  rw [e]

theorem cells4 {w : World} {g : Nat} {t : TypeId} {v0 v1 v2 v3 : Value} (h : Blk w g t #[v0, v1, v2, v3]) :
    w.cell? ⟨g, 0, none⟩ = some v0 ∧ w.cell? ⟨g, 1, none⟩ = some v1 ∧ w.cell? ⟨g, 2, none⟩ = some v2 ∧ w.cell? ⟨g, 3, none⟩ = some v3 ∧
      w.frozen? ⟨g, 0, none⟩ = false ∧ w.frozen? ⟨g, 1, none⟩ = false ∧ w.frozen? ⟨g, 2, none⟩ = false ∧ w.frozen? ⟨g, 3, none⟩ = false :=
  ⟨h.cell 0, h.cell 1, h.cell 2, h.cell 3, h.frozen 0, h.frozen 1, h.frozen 2, h.frozen 3⟩
theorem cells2 {w : World} {g : Nat} {t : TypeId} {v0 v1 : Value} (h : Blk w g t #[v0, v1]) :
    w.cell? ⟨g, 0, none⟩ = some v0 ∧ w.cell? ⟨g, 1, none⟩ = some v1 ∧ w.frozen? ⟨g, 0, none⟩ = false ∧ w.frozen? ⟨g, 1, none⟩ = false :=
  ⟨h.cell 0, h.cell 1, h.frozen 0, h.frozen 1⟩
theorem sum_two (A : Option Addr) (n c : Nat) (x : Int) (A' : Option Addr) (n' c' : Nat) (y : Int) (W : World) (g : Nat) (hg : W.heap.size = g) (t1 t2 : TypeId) (h : Wh W A n c x) (h' : Wh W A' n' c' y) (hx : wl x ≤ 137438953472) (hy : wl y ≤ 137438953472) :
    Calls Tryz.prog 85 #[.slice (some ⟨g, 0, none⟩) 2 2, .slice (some ⟨g + 1, 0, none⟩) 2 2]
      ((W.alloc (.cells #[.bool (ng x), .slice A n c, .bool (ng y), .slice A' n' c'] t1)).alloc (.cells #[.int .i64 0, .int .i64 0] t2))
      (RetW (x + y) ((W.alloc (.cells #[.bool (ng x), .slice A n c, .bool (ng y), .slice A' n' c'] t1)).alloc (.cells #[.int .i64 0, .int .i64 0] t2))) := by
  subst hg
  have hs : tot [x, y] [0, 0] 2 = x + y := by simp [tot]
  have hb := ((Below.refl W.heap.size W).alloc (Nat.le_refl _) (.cells #[.bool (ng x), .slice A n c, .bool (ng y), .slice A' n' c'] t1)).alloc (by simp) (.cells #[.int .i64 0, .int .i64 0] t2)
  have hB := (Blk.new W t1 #[.bool (ng x), .slice A n c, .bool (ng y), .slice A' n' c']).alloc (.cells #[.int .i64 0, .int .i64 0] t2)
  have hP := Blk.new_ (W.alloc (.cells #[.bool (ng x), .slice A n c, .bool (ng y), .slice A' n' c'] t1)) t2 #[.int .i64 0, .int .i64 0] (W.heap.size + 1) (by simp)
  obtain ⟨k0, k1, k2, k3, _⟩ := cells4 hB
  obtain ⟨p0, p1, _⟩ := cells2 hP
  have hsum := sum_any W.heap.size 0 2 (W.heap.size + 1) 0 2 2 [x, y] [0, 0] (hn := rfl) (hn2 := rfl) (hnb := by omega) (hc := Nat.le_refl _) (hcp := Nat.le_refl _)
    (w := ((W.alloc (.cells #[.bool (ng x), .slice A n c, .bool (ng y), .slice A' n' c'] t1)).alloc (.cells #[.int .i64 0, .int .i64 0] t2)))
    (hz := by
      intro i hi
      match i, hi with
      | 0, _ => exact ⟨A, n, c, k0, k1, h.below hb⟩
      | 1, _ => exact ⟨A', n', c', k2, k3, h'.below hb⟩)
    (hp := by
      intro i hi
      match i, hi with
      | 0, _ => exact p0
      | 1, _ => exact p1)
    (hzb := by intro z hz; simp at hz; rcases hz with rfl | rfl <;> assumption) (hpb := by intro p hp; simp at hp; omega) (hn0 := by omega)
  rw [hs] at hsum
  exact hsum

theorem plus_any (A : Option Addr) (n c : Nat) (x : Int) (A' : Option Addr) (n' c' : Nat) (y : Int) (w : World) (h : Wh w A n c x) (h' : Wh w A' n' c' y) (hx : wl x ≤ 137438953472) (hy : wl y ≤ 137438953472) :
    Calls Tryz.prog 53 #[.agg #[.bool (ng x), .slice A n c], .agg #[.bool (ng y), .slice A' n' c']] w (RetW (x + y) w) := by
  have H := Lib.hid h
  have H' := Lib.hid h'
  have HX := Lib.hid hx
  have HY := Lib.hid hy
  clear h h' hx hy
  go_enter Tryz.func53, Tryz.ntmps53
  go_wp2_with fail
  have hb0 := (((Below.refl w.heap.size w).alloc (Nat.le_refl _) (.cells #[.bool (ng x), .slice A n c] 35)).alloc (by simp) (.cells #[.bool (ng y), .slice A' n' c'] 35)).alloc (by simp <;> omega) (.cells #[.bool false, .slice none 0 0] 35)
  refine (sum_two A n c x A' n' c' y _ (w.heap.size + 1 + 1 + 1) (by simp) _ _ (H.out.below hb0) (H'.out.below hb0) HX.out HY.out).mono ?_
  rintro e w1 ⟨B, m, d, rfl, hW, hb⟩
  have hB := (((Blk.new_ ((w.alloc (.cells #[.bool (ng x), .slice A n c] 35)).alloc (.cells #[.bool (ng y), .slice A' n' c'] 35)) 35 #[.bool false, .slice none 0 0] (w.heap.size + 1 + 1) (by simp)).alloc _).alloc _).below hb (by simp <;> omega)
  have HB2 := Lib.hid (hB.store2 (.bool (ng (x + y))) (.slice B m d))
  have HW := Lib.hid (hW.store2 hB (.bool (ng (x + y))) (.slice B m d))
  have HBel := Lib.hid (((hb0.alloc (by simp <;> omega) _).alloc (by simp <;> omega) _).trans (hb.mono (by simp <;> omega)))
  obtain ⟨k0, k1, f0, f1⟩ := cells2 hB
  clear hW hB hb hb0
  go_wp2_with fail
  obtain ⟨h0, h1, _⟩ := cells2 HB2.out
  exact bodyPost_ret (v := .agg #[.bool (ng (x + y)), .slice B m d]) (by simp [results, Tryz.results53, go_sem, h0, h1]) rfl
    (RetW_def _ _ _ _ _ _ _ rfl HW.out ((HBel.out.setCell (by simp <;> omega) _).setCell (by simp <;> omega) _))

theorem odd_unique {m n a b : Nat} (h : m * 2 ^ a = n * 2 ^ b) (hm : m % 2 = 1) (hn : n % 2 = 1) : a = b ∧ m = n := by
  have key : ∀ {m n a b : Nat}, m * 2 ^ a = n * 2 ^ b → m % 2 = 1 → n % 2 = 1 → a ≤ b → a = b ∧ m = n := by
    intro m n a b h hm hn hab
    have e : 2 ^ b = 2 ^ a * 2 ^ (b - a) := by rw [← Nat.pow_add]; congr 1; omega
    rw [e, ← Nat.mul_assoc, Nat.mul_right_comm] at h
    have h2 := Nat.eq_of_mul_eq_mul_right (Nat.two_pow_pos a) h
    rcases Nat.eq_zero_or_pos (b - a) with h0 | h0
    · rw [h0] at h2; exact ⟨by omega, by simpa using h2⟩
    · rw [show b - a = (b - a - 1) + 1 by omega, Nat.pow_succ, ← Nat.mul_assoc] at h2
      omega
  rcases Nat.le_total a b with hab | hab
  · exact key h hm hn hab
  · obtain ⟨e1, e2⟩ := key h.symm hn hm hab
    exact ⟨e1.symm, e2.symm⟩
theorem ctz_of {x m s : Nat} (hx : x < 18446744073709551616) (h : x = m * 2 ^ s) (hm : m % 2 = 1) : Lib.ctz 64 x = s := by
  have h0 : x ≠ 0 := by
    have := Nat.two_pow_pos s
    rw [h]; exact Nat.mul_ne_zero (by omega) (by omega)
  unfold Lib.ctz
  rw [if_neg h0]
  obtain ⟨k, e, _⟩ := Lib.ctzFrom_spec 64 x (by omega) hx
  have e2 : (2 * k + 1) * 2 ^ Lib.ctzFrom 64 x = m * 2 ^ s := by rw [← h, Nat.mul_comm]; exact e.symm
  exact (odd_unique e2 (by omega) hm).1

set_option maxHeartbeats 1000000 in
theorem tz_core (x k idx : Nat) (w : World) (hx0 : ((x : Int) == 0) = false)
    (key : IntKind.u64.wrap (bits BinOp.and IntKind.u64 (x : Int) (IntKind.u64.wrap (-(x : Int))) * 285870213051353865) / 288230376151711744 = (idx : Int))
    (hi : idx < 64) (hk : k < 64) (hcell : w.cell? ⟨3, idx, none⟩ = some (.int .u8 k)) :
    Calls Tryz.prog 114 #[.int .u64 x] w fun e w' => e = .returned (.int .i64 k) ∧ w = w' := by
  go_enter Tryz.func114, Tryz.ntmps114
  go_wp2_with (simp only [key])
  go_ret
  exact ⟨rfl, rfl⟩
theorem tz_any (x m s : Nat) (w : World) (hx : x < 18446744073709551616) (h : x = m * 2 ^ s) (hm : m % 2 = 1) (hg : Glob w) :
    Calls Tryz.prog 114 #[.int .u64 x] w fun e w' => e = .returned (.int .i64 s) ∧ w = w' := by
  have h0 : x ≠ 0 := by
    have := Nat.two_pow_pos s
    rw [h]; exact Nat.mul_ne_zero (by omega) (by omega)
  obtain ⟨hlow, hk⟩ := Lib.lowest_bit 64 x h0 hx
  obtain ⟨hi, htab⟩ := Lib.deBruijn64_at _ hk
  have hcell := hg.1 _ hi
  rw [htab] at hcell
  have hc := tz_core x _ _ w (by simp; omega) (tz64_key x _ hx h0 hlow) hi hk hcell
  rw [ctz_of hx h hm] at hc
  exact hc
end Go.Proofs.YtbkbeglmfhaleaaGreatDoor
