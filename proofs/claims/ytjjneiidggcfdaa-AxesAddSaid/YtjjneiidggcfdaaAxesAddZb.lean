/-
What the proof rests on: laws of floats, lists, memory and the walks of the functions. Conditions: as each says.
-/
import Derived.Test.YtjjneiidggcfdaaAxesAddZa
import Derived.Below
import Derived.ChangeSame
import Derived.Laws.Cover2
import Derived.Test.YtjjneiidggcfdaaRows
import Derived.KernelRfl
import Derived.WalkKit
import Derived.Laws.Rows
import Derived.Deep.Draws
import Derived.Laws.OwnMore
import Derived.Lib.Hide
import Derived.Laws.FloatBits
import GoSem.Core.Float
import Derived.WalkLawsBesides
import Derived.Laws.BitsAllLaws
import Derived.WalkSpells
import Derived.LoopTactic
import Derived.Outline
import Derived.Laws.Externs
import Derived.Deep.QuietTactic
import Derived.BigQuiet
import Derived.RegionTactic
import Derived.Deep.Slices
import Derived.Deep.Fields
import Derived.Laws.FloatArith
import Derived.Deep.RegionHeld3
import Derived.Deep.DrawnRows
import Derived.Deep.DeepCutAuto
import Derived.Deep.CutBlock
import Derived.Deep.OwnRows
import Derived.IntWalk
import Derived.Deep.RegionWith
import Derived.Laws.AppendOwn
import Derived.LaidEqlPtr
import Derived.BigRegion
import Derived.Orders
import Derived.RowKit3
import Derived.Lib.BitFns
import Derived.Shelf.Abstract
set_option linter.unusedVariables false
namespace Go.Proofs.Ytjjneiidggcfdaa
open Go.RowKit
attribute [local go_sem ↓] ib_andNot_sign ib_and_frac ib_and_15 ib_and_1 ib_and_sign ib_and_inf ib_or

/-- After some doublings of m, each of which took one from e. -/
def Up1 (m : Nat) (e : Int) (M : Nat) (E : Int) : Prop := ∃ j : Nat, M = m * 2 ^ j ∧ E = e - j ∧ (j = 0 ∨ (M < 9007199254740992 ∧ -1074 ≤ E))
theorem Up1.start (m : Nat) (e : Int) : Up1 m e m e := ⟨0, by simp, by omega, .inl rfl⟩
theorem Up1.scl {m : Nat} {e : Int} {M : Nat} {E : Int} (h : Up1 m e M E) : Fl.scl m (e + 1074) = Fl.scl M (E + 1074) := by
  obtain ⟨j, rfl, rfl, _⟩ := h
  rw [Fl.scl_shift]; congr 1; omega

/-- The last digit that was cut off, and whether one behind it was 1. -/
def lostB (m i : Nat) : Bool := if i = 0 then false else decide (m % 2 ^ (i - 1) ≠ 0)
def halfB (m i : Nat) : Bool := if i = 0 then false else decide (m / 2 ^ (i - 1) % 2 = 1)
def Down2 (m : Nat) (e : Int) (M : Nat) (E : Int) (lost half : Bool) : Prop :=
  ∃ i : Nat, M = m / 2 ^ i ∧ E = e + i ∧ lost = lostB m i ∧ half = halfB m i ∧ (i = 0 ∨ 4503599627370496 ≤ M ∨ E ≤ -1074)
theorem Down2.start (m : Nat) (e : Int) : Down2 m e m e false false := ⟨0, by simp, by omega, rfl, rfl, .inl rfl⟩
/-- Rounded: one more if the last digit that was cut off was 1, and one behind it, or the last that is kept. -/
theorem rne_lost (m i : Nat) : Fl.rne m i = m / 2 ^ i + if halfB m i = true ∧ (lostB m i = true ∨ m / 2 ^ i % 2 = 1) then 1 else 0 := by
  by_cases h0 : i = 0
  · subst h0; rw [Fl.rne_d0]; simp [halfB]
  · rw [rne_half m i (by omega)]
    congr 1
    unfold halfB lostB
    rw [if_neg h0, if_neg h0]
    obtain ⟨k, rfl⟩ : ∃ k, i = k + 1 := ⟨i - 1, by omega⟩
    rw [show k + 1 - 1 = k by omega, Nat.mod_pow_succ]
    have hp : 0 < 2 ^ k := Nat.two_pow_pos k
    have hm := Nat.mod_lt m hp
    simp only [decide_eq_true_eq]
    have hb : m / 2 ^ k % 2 = 0 ∨ m / 2 ^ k % 2 = 1 := by omega
    generalize m / 2 ^ (k + 1) % 2 = z
    rcases hb with hb | hb
    · rw [hb, if_neg (by simp; omega), if_neg (by omega)]
    · rw [hb]
      by_cases h1 : m % 2 ^ k = 0
      · by_cases h2 : z = 1
        · rw [if_pos (by simp; omega), if_pos ⟨rfl, .inr h2⟩]
        · rw [if_neg (by simp; omega), if_neg (by omega)]
      · rw [if_pos (by simp; omega), if_pos ⟨rfl, .inl h1⟩]

/-- The rung that Make comes to, out of what its loops leave. -/
theorem Down2.scl {m : Nat} {e : Int} {M : Nat} {E : Int} {lost half : Bool} (h : Down2 m e M E lost half) (h1 : M < 9007199254740992) (h2 : -1074 ≤ E) (h3 : 4503599627370496 ≤ m ∨ e ≤ -1074) :
    Fl.scl m (e + 1074) = Fl.cap ((E + 1074).toNat * 4503599627370496 + (M + if half = true ∧ (lost = true ∨ M % 2 = 1) then 1 else 0)) ∧ (4503599627370496 ≤ M ∨ E = -1074) := by
  obtain ⟨i, rfl, rfl, rfl, rfl, hl⟩ := h
  have hq : 4503599627370496 ≤ m / 2 ^ i ∨ (e + i + 1074).toNat = 0 := by
    rcases hl with rfl | hl | hl
    · rcases h3 with h3 | h3
      · left; simpa using h3
      · right; omega
    · exact .inl hl
    · right; omega
  have := Fl.scl_place m i (e + i + 1074).toNat h1 hq
  rw [Int.toNat_of_nonneg (by omega), show e + (i : Int) + 1074 - (i : Int) = e + 1074 by omega, rne_lost] at this
  exact ⟨this, by omega⟩

/-- What the document's Make answers. -/
def mk (neg : Bool) (m : Nat) (e : Int) : Nat := Fl.wd neg (Fl.scl m (e + 1074))

end Go.Proofs.Ytjjneiidggcfdaa
set_option linter.unusedVariables false
namespace Go.Proofs.Ytjjneiidggcfdaa
open Go.RowKit
attribute [local go_sem ↓] ib_andNot_sign ib_and_frac ib_and_15 ib_and_1 ib_and_sign ib_and_inf ib_or

/-- A word with the other sign. -/
def negB (b : Nat) : Nat := Op.negFloat .f64 b
theorem unary_neg (b : Nat) : Op.unary .neg (.float .f64 b) = pure (.float .f64 (negB b)) := rfl
attribute [go_sem ↓] unary_neg
end Go.Proofs.Ytjjneiidggcfdaa
set_option linter.unusedVariables false
set_option linter.unusedSimpArgs false
set_option linter.unnecessarySimpa false
namespace Go.Proofs.Ytjjneiidggcfdaa
open Go.RowKit
attribute [local go_sem ↓] Go.wp_at_zero Go.wp_at_succ

theorem axplace_any (A : Option Addr) (n c : Nat) (o K i k : Nat) (w : World) (hP : o + k * i < 1048576) :
    Calls Try.prog 56 #[vec A n c o K i, .int .i64 k] w fun e w' => e = .returned (.int .i64 ((o + k * i : Nat) : Int)) ∧ Below w.heap.size w w' := by
  have HB := Lib.hid ((Below.refl w.heap.size w).alloc (Nat.le_refl _) (.cells #[.slice A n c, .int .i64 o, .int .i64 K, .int .i64 i] 30))
  obtain ⟨a, ha⟩ : ∃ a, k * i = a := ⟨_, rfl⟩
  obtain ⟨P, hPd⟩ : ∃ P, o + k * i = P := ⟨_, rfl⟩
  have e1 : ((k : Int) * (i : Int)) = (a : Int) := by rw [← ha]; simp
  have e2 : (o : Int) + (a : Int) = (P : Int) := by rw [← hPd, ha]; simp
  have HW := Lib.hid (wrap3 (o := o) (a := a) (P := P) (by rw [← hPd]; omega) (by rw [← ha, hPd]))
  rw [hPd] at hP ⊢
  clear ha hPd hP
  obtain ⟨u1, u2, u3, u4⟩ := HW.out
  unfold vec
  go_enter Try.func56, Try.ntmps56
  go_wp2_with fail
  go_ret
  exact ⟨rfl, HB.out⟩

set_option maxRecDepth 100000 in
set_option maxHeartbeats 1000000 in
/-- What Axpy does to a number. -/
theorem axaxpy_one (a x y : Nat) (pa px b y0 n c o K i k : Nat) (w : World) (ha : w.cell? ⟨pa, 0, none⟩ = some (.float .f64 a)) (hx : Blk w px 30 #[.slice (some ⟨b, y0, none⟩) n c, .int .i64 o, .int .i64 K, .int .i64 i])
    (hc : w.cell? ⟨b, y0 + (o + k * i), none⟩ = some (.float .f64 x)) (hP : o + k * i < n) (hn : n < 1048576) :
    Calls Try.prog 55 #[.int .i64 (k : Int), .float .f64 y, .pointer (some ⟨pa, 0, none⟩), .pointer (some ⟨px, 0, none⟩)] w fun e w' => ∃ p r, e = .returned (.float .f64 r) ∧ Comes .mul a x p ∧ Comes .add y p r ∧ Below w.heap.size w w' := by
  have HP := Lib.hid (fun W => axplace_any (some ⟨b, y0, none⟩) n c o K i k W (by omega))
  unfold vec at HP
  obtain ⟨P, hPd⟩ : ∃ P, o + k * i = P := ⟨_, rfl⟩
  rw [hPd] at HP hc hP
  have b1 : (P : Int) < (n : Int) := by omega
  have b0 : (0 : Int) ≤ (P : Int) := by omega
  have b2 := hP
  have HA := Lib.hid ha
  have HX := Lib.hid hx
  have HC := Lib.hid hc
  clear ha hx hc hPd hP hn
  go_enter Try.func55, Try.ntmps55
  go_wp2_with fail
  refine wp_region_inv [7, 8, 9, 10, 11, 12, 13, 14, 15, 16, 17, 6] (fun d s W => (d 0 = true → s 7 = .float .f64 y) ∧ (d 1 = true → s 8 = .float .f64 a) ∧ (d 2 = true → s 9 = .pointer (some ⟨px, 0, none⟩)) ∧ (d 3 = true → s 10 = .slice (some ⟨b, y0, none⟩) n c) ∧ (d 4 = true → s 11 = .agg #[.slice (some ⟨b, y0, none⟩) n c, .int .i64 (o : Int), .int .i64 (K : Int), .int .i64 (i : Int)]) ∧ (d 5 = true → s 12 = .int .i64 (k : Int)) ∧ (d 6 = true → s 13 = .int .i64 (P : Int)) ∧ (d 7 = true → s 14 = .pointer (some ⟨b, y0 + P, none⟩)) ∧ (d 8 = true → s 15 = .float .f64 x) ∧ (d 9 = true → ∃ p, s 16 = .float .f64 p ∧ Comes .mul a x p) ∧ (d 10 = true → ∃ p r, s 17 = .float .f64 r ∧ Comes .mul a x p ∧ Comes .add y p r) ∧ (d 11 = true → ∃ p r, s 6 = .float .f64 r ∧ Comes .mul a x p ∧ Comes .add y p r) ∧ Below w.heap.size w W)
    rfl (by kernel_rfl) ?_ ?_ ?_
  · exact ⟨by simp, by simp, by simp, by simp, by simp, by simp, by simp, by simp, by simp, by simp, by simp, by simp, (Below.refl _ _).drew⟩
  · refine ⟨?_, ?_, ?_, ?_, ?_, ?_, ?_, ?_, ?_, ?_, ?_, ?_, trivial⟩
    all_goals
      intro d s W hJ hfr hd hdep
      simp only [List.mem_cons, forall_eq_or_imp, List.not_mem_nil, false_implies, implies_true, and_true, Region.binds] at hdep
      have f0 := hfr 0 (by decide)
      have f1 := hfr 1 (by decide)
      have f2 := hfr 2 (by decide)
      have f3 := hfr 3 (by decide)
      simp at f0 f1 f2 f3 hdep
      obtain ⟨h0, h1, h2, h3, h4, h5, h6, h7, h8, h9, h10, h11, hT⟩ := hJ
      unfold OpSteps
    · simp [go_sem, evS, f1]
      exact ⟨fun _ => by simp [sput], fun h => by simpa [sput] using h1 (by simpa [did] using h), fun h => by simpa [sput] using h2 (by simpa [did] using h), fun h => by simpa [sput] using h3 (by simpa [did] using h), fun h => by simpa [sput] using h4 (by simpa [did] using h), fun h => by simpa [sput] using h5 (by simpa [did] using h), fun h => by simpa [sput] using h6 (by simpa [did] using h), fun h => by simpa [sput] using h7 (by simpa [did] using h), fun h => by simpa [sput] using h8 (by simpa [did] using h), fun h => by simpa [sput] using h9 (by simpa [did] using h), fun h => by simpa [sput] using h10 (by simpa [did] using h), fun h => by simpa [sput] using h11 (by simpa [did] using h), hT⟩
    · have pc := cell_below HA.out hT
      simp [go_sem, evS, f2, pc]
      exact ⟨fun h => by simpa [sput] using h0 (by simpa [did] using h), fun _ => by simp [sput], fun h => by simpa [sput] using h2 (by simpa [did] using h), fun h => by simpa [sput] using h3 (by simpa [did] using h), fun h => by simpa [sput] using h4 (by simpa [did] using h), fun h => by simpa [sput] using h5 (by simpa [did] using h), fun h => by simpa [sput] using h6 (by simpa [did] using h), fun h => by simpa [sput] using h7 (by simpa [did] using h), fun h => by simpa [sput] using h8 (by simpa [did] using h), fun h => by simpa [sput] using h9 (by simpa [did] using h), fun h => by simpa [sput] using h10 (by simpa [did] using h), fun h => by simpa [sput] using h11 (by simpa [did] using h), hT⟩
    · simp [go_sem, evS, f3]
      exact ⟨fun h => by simpa [sput] using h0 (by simpa [did] using h), fun h => by simpa [sput] using h1 (by simpa [did] using h), fun _ => by simp [sput], fun h => by simpa [sput] using h3 (by simpa [did] using h), fun h => by simpa [sput] using h4 (by simpa [did] using h), fun h => by simpa [sput] using h5 (by simpa [did] using h), fun h => by simpa [sput] using h6 (by simpa [did] using h), fun h => by simpa [sput] using h7 (by simpa [did] using h), fun h => by simpa [sput] using h8 (by simpa [did] using h), fun h => by simpa [sput] using h9 (by simpa [did] using h), fun h => by simpa [sput] using h10 (by simpa [did] using h), fun h => by simpa [sput] using h11 (by simpa [did] using h), hT⟩
    · have g2 := h2 (by simp [hdep])
      obtain ⟨p0, p1, p2, p3⟩ := cells4w (HX.out.below hT HX.out.lt)
      simp [go_sem, evS, g2, p0, p1, p2, p3]
      exact ⟨fun h => by simpa [sput] using h0 (by simpa [did] using h), fun h => by simpa [sput] using h1 (by simpa [did] using h), fun h => by simpa [sput] using h2 (by simpa [did] using h), fun _ => by simp [sput], fun h => by simpa [sput] using h4 (by simpa [did] using h), fun h => by simpa [sput] using h5 (by simpa [did] using h), fun h => by simpa [sput] using h6 (by simpa [did] using h), fun h => by simpa [sput] using h7 (by simpa [did] using h), fun h => by simpa [sput] using h8 (by simpa [did] using h), fun h => by simpa [sput] using h9 (by simpa [did] using h), fun h => by simpa [sput] using h10 (by simpa [did] using h), fun h => by simpa [sput] using h11 (by simpa [did] using h), hT⟩
    · obtain ⟨p0, p1, p2, p3⟩ := cells4w (HX.out.below hT HX.out.lt)
      simp [go_sem, evS, f3, p0, p1, p2, p3]
      exact ⟨fun h => by simpa [sput] using h0 (by simpa [did] using h), fun h => by simpa [sput] using h1 (by simpa [did] using h), fun h => by simpa [sput] using h2 (by simpa [did] using h), fun h => by simpa [sput] using h3 (by simpa [did] using h), fun _ => by simp [sput], fun h => by simpa [sput] using h5 (by simpa [did] using h), fun h => by simpa [sput] using h6 (by simpa [did] using h), fun h => by simpa [sput] using h7 (by simpa [did] using h), fun h => by simpa [sput] using h8 (by simpa [did] using h), fun h => by simpa [sput] using h9 (by simpa [did] using h), fun h => by simpa [sput] using h10 (by simpa [did] using h), fun h => by simpa [sput] using h11 (by simpa [did] using h), hT⟩
    · simp [go_sem, evS, f0]
      exact ⟨fun h => by simpa [sput] using h0 (by simpa [did] using h), fun h => by simpa [sput] using h1 (by simpa [did] using h), fun h => by simpa [sput] using h2 (by simpa [did] using h), fun h => by simpa [sput] using h3 (by simpa [did] using h), fun h => by simpa [sput] using h4 (by simpa [did] using h), fun _ => by simp [sput], fun h => by simpa [sput] using h6 (by simpa [did] using h), fun h => by simpa [sput] using h7 (by simpa [did] using h), fun h => by simpa [sput] using h8 (by simpa [did] using h), fun h => by simpa [sput] using h9 (by simpa [did] using h), fun h => by simpa [sput] using h10 (by simpa [did] using h), fun h => by simpa [sput] using h11 (by simpa [did] using h), hT⟩
    · have g4 := h4 (by simp [hdep])
      have g5 := h5 (by simp [hdep])
      simp [go_sem, evS, g4, g5]
      refine (HP.out W).mono ?_
      rintro e W' ⟨rfl, hb⟩
      refine ⟨_, rfl, ?_⟩
      exact ⟨fun h => by simpa [sput] using h0 (by simpa [did] using h), fun h => by simpa [sput] using h1 (by simpa [did] using h), fun h => by simpa [sput] using h2 (by simpa [did] using h), fun h => by simpa [sput] using h3 (by simpa [did] using h), fun h => by simpa [sput] using h4 (by simpa [did] using h), fun h => by simpa [sput] using h5 (by simpa [did] using h), fun _ => by simp [sput], fun h => by simpa [sput] using h7 (by simpa [did] using h), fun h => by simpa [sput] using h8 (by simpa [did] using h), fun h => by simpa [sput] using h9 (by simpa [did] using h), fun h => by simpa [sput] using h10 (by simpa [did] using h), fun h => by simpa [sput] using h11 (by simpa [did] using h), below_nx hT hb⟩
    · have g3 := h3 (by simp [hdep])
      have g6 := h6 (by simp [hdep])
      simp [go_sem, evS, g3, g6, b2]
      exact ⟨fun h => by simpa [sput] using h0 (by simpa [did] using h), fun h => by simpa [sput] using h1 (by simpa [did] using h), fun h => by simpa [sput] using h2 (by simpa [did] using h), fun h => by simpa [sput] using h3 (by simpa [did] using h), fun h => by simpa [sput] using h4 (by simpa [did] using h), fun h => by simpa [sput] using h5 (by simpa [did] using h), fun h => by simpa [sput] using h6 (by simpa [did] using h), fun _ => by simp [sput], fun h => by simpa [sput] using h8 (by simpa [did] using h), fun h => by simpa [sput] using h9 (by simpa [did] using h), fun h => by simpa [sput] using h10 (by simpa [did] using h), fun h => by simpa [sput] using h11 (by simpa [did] using h), hT⟩
    · have g7 := h7 (by simp [hdep])
      have pc := cell_below HC.out hT
      simp [go_sem, evS, g7, pc]
      exact ⟨fun h => by simpa [sput] using h0 (by simpa [did] using h), fun h => by simpa [sput] using h1 (by simpa [did] using h), fun h => by simpa [sput] using h2 (by simpa [did] using h), fun h => by simpa [sput] using h3 (by simpa [did] using h), fun h => by simpa [sput] using h4 (by simpa [did] using h), fun h => by simpa [sput] using h5 (by simpa [did] using h), fun h => by simpa [sput] using h6 (by simpa [did] using h), fun h => by simpa [sput] using h7 (by simpa [did] using h), fun _ => by simp [sput], fun h => by simpa [sput] using h9 (by simpa [did] using h), fun h => by simpa [sput] using h10 (by simpa [did] using h), fun h => by simpa [sput] using h11 (by simpa [did] using h), hT⟩
    · have g1 := h1 (by simp [hdep])
      have g8 := h8 (by simp [hdep])
      simp [go_sem, evS, g1, g8]
      exact ⟨fun h => by simpa [sput] using h0 (by simpa [did] using h), fun h => by simpa [sput] using h1 (by simpa [did] using h), fun h => by simpa [sput] using h2 (by simpa [did] using h), fun h => by simpa [sput] using h3 (by simpa [did] using h), fun h => by simpa [sput] using h4 (by simpa [did] using h), fun h => by simpa [sput] using h5 (by simpa [did] using h), fun h => by simpa [sput] using h6 (by simpa [did] using h), fun h => by simpa [sput] using h7 (by simpa [did] using h), fun h => by simpa [sput] using h8 (by simpa [did] using h), fun _ => ⟨fres .mul W a x, by simp [sput], fres_comes _ _ _ _⟩, fun h => by simpa [sput] using h10 (by simpa [did] using h), fun h => by simpa [sput] using h11 (by simpa [did] using h), below_drewN hT _⟩
    · have g0 := h0 (by simp [hdep])
      have g9 := h9 (by simp [hdep])
      obtain ⟨p, gp, hp⟩ := g9
      simp [go_sem, evS, g0, gp]
      exact ⟨fun h => by simpa [sput] using h0 (by simpa [did] using h), fun h => by simpa [sput] using h1 (by simpa [did] using h), fun h => by simpa [sput] using h2 (by simpa [did] using h), fun h => by simpa [sput] using h3 (by simpa [did] using h), fun h => by simpa [sput] using h4 (by simpa [did] using h), fun h => by simpa [sput] using h5 (by simpa [did] using h), fun h => by simpa [sput] using h6 (by simpa [did] using h), fun h => by simpa [sput] using h7 (by simpa [did] using h), fun h => by simpa [sput] using h8 (by simpa [did] using h), fun h => by simpa [sput] using h9 (by simpa [did] using h), fun _ => ⟨p, fres .add W y p, by simp [sput], hp, fres_comes _ _ _ _⟩, fun h => by simpa [sput] using h11 (by simpa [did] using h), below_drewN hT _⟩
    · have g10 := h10 (by simp [hdep])
      obtain ⟨p, r, gp, hp⟩ := g10
      simp [go_sem, evS, gp]
      exact ⟨fun h => by simpa [sput] using h0 (by simpa [did] using h), fun h => by simpa [sput] using h1 (by simpa [did] using h), fun h => by simpa [sput] using h2 (by simpa [did] using h), fun h => by simpa [sput] using h3 (by simpa [did] using h), fun h => by simpa [sput] using h4 (by simpa [did] using h), fun h => by simpa [sput] using h5 (by simpa [did] using h), fun h => by simpa [sput] using h6 (by simpa [did] using h), fun h => by simpa [sput] using h7 (by simpa [did] using h), fun h => by simpa [sput] using h8 (by simpa [did] using h), fun h => by simpa [sput] using h9 (by simpa [did] using h), fun h => by simpa [sput] using h10 (by simpa [did] using h), fun _ => ⟨p, r, by simp [sput], hp⟩, hT⟩
  intro d s W hJ hd
  obtain ⟨h0, h1, h2, h3, h4, h5, h6, h7, h8, h9, h10, h11, hT⟩ := hJ
  obtain ⟨p, r, hs, hp, hr⟩ := h11 (hd 11 (by decide))
  have HR := Lib.hid (And.intro hp hr)
  have HBe := Lib.hid hT
  clear h0 h1 h2 h3 h4 h5 h6 h7 h8 h9 h10 h11 hT hd hp hr
  simp [setAll, hs]
  clear hs
  go_wp2_with fail
  go_ret
  exact ⟨p, r, rfl, HR.out.1, HR.out.2, HBe.out⟩
end Go.Proofs.Ytjjneiidggcfdaa
set_option linter.unusedVariables false
set_option linter.unusedSimpArgs false
set_option linter.unnecessarySimpa false
namespace Go.Proofs.Ytjjneiidggcfdaa
open Go.RowKit
attribute [local go_sem ↓] Go.wp_at_zero Go.wp_at_succ

theorem wrt_more (l : List Nat) (o i : Nat) (m : List Nat) (x : Nat) : ∀ k, k ≤ m.length → wrt l o i (m ++ [x]) k = wrt l o i m k
  | 0, _ => rfl
  | k + 1, h => by
    show (wrt l o i (m ++ [x]) k).set (o + k * i) ((m ++ [x]).getD k 0) = (wrt l o i m k).set (o + k * i) (m.getD k 0)
    rw [wrt_more l o i m x k (by omega)]
    congr 1
    simp [List.getD, List.getElem?_append_left (show k < m.length by omega)]
theorem wrt_last (l : List Nat) (o i : Nat) (m : List Nat) (x k : Nat) (h : m.length = k) : wrt l o i (m ++ [x]) (k + 1) = (wrt l o i m k).set (o + k * i) x := by
  show (wrt l o i (m ++ [x]) k).set (o + k * i) ((m ++ [x]).getD k 0) = _
  rw [wrt_more l o i m x k (by omega)]
  congr 1
  subst h
  simp [List.getD]
/-- One number has been stored. -/
def Stored (g P : Nat) (R : Nat → Prop) (wr W : World) : Prop := ∃ W' r, Below wr.heap.size wr W' ∧ W = W'.setCell ⟨g, P, none⟩ (.float .f64 r) ∧ R r
/-- Each number has become what was asked. -/
def Eached (I : World → Prop) (R : Nat → Nat → Prop) (g : Nat) (l : List Nat) (o i K : Nat) (w : World) (e : Ending) (w' : World) : Prop :=
  e = .returned (.tuple #[]) ∧ ∃ m : List Nat, m.length = K ∧ (∀ q, q < K → R q (m.getD q 0)) ∧ Own w' g (wrt l o i m K) ∧ I w' ∧ Chg [g] w w'
theorem frz_below {W W' : World} {b o : Nat} (h : W.frozen? ⟨b, o, none⟩ = false) (hlt : b < W.heap.size) (hb : Below W.heap.size W W') : W'.frozen? ⟨b, o, none⟩ = false := (hb.frozen (p := ⟨b, o, none⟩) hlt).trans h

set_option maxRecDepth 100000 in
set_option maxHeartbeats 1000000 in
theorem each_any (F : FuncId) (caps : Array Value) (I : World → Prop) (R : Nat → Nat → Prop) (g n c : Nat) (l : List Nat) (o K i : Nat) (w : World)
    (hF : ∀ args W, (callFunc F args).run Try.prog W = .ok (.enter F args) W) (hO : Own w g l) (hl : l.length = n) (hn : n < 1048576) (hi1 : 1 ≤ i) (hr : K = 0 ∨ o + (K - 1) * i < n) (hI : I w)
    (hIb : ∀ W W', I W → Below W.heap.size W W' → I W') (hIs : ∀ W q v, q < K → I W → I (W.setCell ⟨g, o + q * i, none⟩ (.float .f64 v)))
    (hC : ∀ W q, q < K → I W → Calls Try.prog F (#[.int .i64 (q : Int), .float .f64 (l.getD (o + q * i) 0)] ++ caps) W fun e w' => ∃ r, e = .returned (.float .f64 r) ∧ R q r ∧ Below W.heap.size W w') :
    Calls Try.prog 54 #[vec (some ⟨g, 0, none⟩) n c o K i, .func (.func F) #[] caps] w (Eached I R g l o i K w) := by
  have HRn := Lib.hid (fun a (h : a < K) => show o + a * i < n from by
    rcases hr with h0 | h0
    · omega
    · exact place_lt h0 h)
  have hK : K ≤ n := by
    rcases hr with h0 | h0
    · omega
    · have : K - 1 ≤ (K - 1) * i := Nat.le_mul_of_pos_right _ hi1
      omega
  have HF := Lib.hid hF
  have HO := Lib.hid hO
  have Hl := Lib.hid hl
  have HI0 := Lib.hid hI
  have HIb := Lib.hid hIb
  have HIs := Lib.hid hIs
  have HCa := Lib.hid hC
  have Hi1 := Lib.hid hi1
  have HPl := Lib.hid (fun a (h : a < K) W => axplace_any (some ⟨g, 0, none⟩) n c o K i a W (by have := HRn.out a h; omega))
  clear hF hO hl hI hIb hIs hC hr hi1
  unfold vec at *
  go_enter Try.func54, Try.ntmps54
  have HZ := Lib.hid (Blk.new w 30 #[.slice (some ⟨g, 0, none⟩) n c, .int .i64 o, .int .i64 K, .int .i64 i])
  have hbl0 : Below w.heap.size w _ := (Below.refl w.heap.size w).alloc (Nat.le_refl _) (.cells #[.slice (some ⟨g, 0, none⟩) n c, .int .i64 o, .int .i64 K, .int .i64 i] 30)
  have HO1 := Lib.hid (HO.out.nxt hbl0)
  have HI1 := Lib.hid (HIb.out _ _ HI0.out hbl0)
  have HC1 := Lib.hid (Chg.of_below (G := [g]) hbl0)
  have Hgz := Lib.hid (show g < w.heap.size from HO.out.lt)
  clear hbl0
  go_wp2_with fail
  generalize hz : w.heap.size = z at *
  have Hz := Lib.hid hz
  clear hz
  go_loopw [8] (fun a wr => ∃ (q : Nat) (m : List Nat), q ≤ K ∧ a = .int .i64 q ∧ Hid (m.length = q ∧ (∀ j, j < q → R j (m.getD j 0)) ∧ Own wr g (wrt l o i m q) ∧ I wr ∧ Chg [g] w wr ∧ Blk wr z 30 #[.slice (some ⟨g, 0, none⟩) n c, .int .i64 o, .int .i64 K, .int .i64 i])) (fun a _ => K - (intOf a).toNat)
  case atStart => exact ⟨0, [], Nat.zero_le _, rfl, Lib.hid ⟨rfl, fun j h => by omega, HO1.out, HI1.out, HC1.out, HZ.out⟩⟩
  case round =>
    obtain ⟨q, m, hq, rfl, HH⟩ := hrel
    have HZ1 := Lib.hid HH.out.2.2.2.2.2
    obtain ⟨c0, c1, c2, c3⟩ := cells4w HZ1.out
    by_cases hlt : q < K
    · have hP := HRn.out q hlt
      have HC0 := Lib.hid (fun W (h : I W) => HCa.out W q hlt h)
      have hyv : (wrt l o i m q).getD (o + q * i) 0 = l.getD (o + q * i) 0 := wrt_else l o i m q (fun j hj e => by have := place_inj Hi1.out e; omega)
      have hPl : o + q * i < (wrt l o i m q).length := by rw [wrt_length, Hl.out]; exact hP
      have hce := HH.out.2.2.1.get _ hPl
      have hfz := HH.out.2.2.1.frozen (o + q * i)
      rw [← getD_of_lt hPl, hyv] at hce
      have HDone0 := Lib.hid (show ∀ r, R q r → ∀ W', Below wr.heap.size wr W' → Hid ((m ++ [r]).length = q + 1 ∧ (∀ j, j < q + 1 → R j ((m ++ [r]).getD j 0)) ∧ Own (W'.setCell ⟨g, o + q * i, none⟩ (.float .f64 r)) g (wrt l o i (m ++ [r]) (q + 1)) ∧ I (W'.setCell ⟨g, o + q * i, none⟩ (.float .f64 r)) ∧ Chg [g] w (W'.setCell ⟨g, o + q * i, none⟩ (.float .f64 r)) ∧ Blk (W'.setCell ⟨g, o + q * i, none⟩ (.float .f64 r)) z 30 #[.slice (some ⟨g, 0, none⟩) n c, .int .i64 o, .int .i64 K, .int .i64 i]) from fun r hr W' hb => Lib.hid (by
        obtain ⟨e1, e2, e3, e4, e5, e6⟩ := HH.out
        refine ⟨by simp [e1], fun j hj => ?_, ?_, HIs.out _ _ _ hlt (HIb.out _ _ e4 hb), (e5.nxt hb).set_in (by simp) _, (e6.nxt hb).other (by show z ≠ g; have := Hgz.out; omega) _⟩
        · by_cases h : j < q
          · have : (m ++ [r]).getD j 0 = m.getD j 0 := by simp [List.getD, List.getElem?_append_left (show j < m.length by omega)]
            rw [this]; exact e2 j h
          · obtain rfl : j = q := by omega
            have : (m ++ [r]).getD j 0 = r := by simp [List.getD, ← e1]
            rw [this]; exact hr
        · rw [wrt_last l o i m r q e1]
          exact (e3.nxt hb).set_ _ _ hPl))
      obtain ⟨y, hy⟩ : ∃ y, l.getD (o + q * i) 0 = y := ⟨_, rfl⟩
      rw [hy] at HC0 hce
      have HPq := Lib.hid (HPl.out q hlt)
      obtain ⟨P, hPd⟩ : ∃ P, o + q * i = P := ⟨_, rfl⟩
      rw [hPd] at HPq hP hce hfz HDone0
      have HI := Lib.hid HH.out.2.2.2.1
      have hqK : (q : Int) < (K : Int) := by omega
      have hq1 : q + 1 ≤ 1048576 := by omega
      have b2 := hP
      have HCe0 := Lib.hid hce
      have HFz0 := Lib.hid hfz
      clear hyv hPl hy hPd hce hfz hP
      go_wp2_with fail
      refine (HPq.out _).mono ?_
      rintro e wp ⟨rfl, hbp⟩
      have HDone := Lib.hid (fun r hr W' (hb : Below wp.heap.size wp W') => HDone0.out r hr W' (below_nx hbp hb))
      have HCe := Lib.hid (cell_below HCe0.out hbp)
      have hlt0 : g < wp.heap.size := block_lt HCe.out
      have HFz := Lib.hid (frz_below HFz0.out (block_lt HCe0.out) hbp)
      have HC := HC0
      have HIp := Lib.hid (HIb.out _ _ HI.out hbp)
      have HZ2 := Lib.hid (HZ1.out.nxt hbp)
      have HI := HIp
      clear hbp c0 c1 c2 c3 HIp
      obtain ⟨c0, c1, c2, c3⟩ := cells4w HZ2.out
      generalize wp = wr at *
      go_wp2_with fail
      refine wp_region_inv [14, 15, 16, 17, 18, 19, 20, 21, 22, 23, 24, 25] (fun d s W => (d 0 = true → s 14 = .pointer (some ⟨z, 0, none⟩)) ∧ (d 1 = true → s 15 = .slice (some ⟨g, 0, none⟩) n c) ∧ (d 2 = true → s 16 = .int .i64 (P : Int)) ∧ (d 3 = true → s 17 = .func (.func F) #[] caps) ∧ (d 4 = true → s 18 = .int .i64 (q : Int)) ∧ (d 5 = true → s 19 = .pointer (some ⟨z, 0, none⟩)) ∧ (d 6 = true → s 20 = .slice (some ⟨g, 0, none⟩) n c) ∧ (d 7 = true → s 21 = .int .i64 (P : Int)) ∧ (d 8 = true → s 22 = .pointer (some ⟨g, P, none⟩)) ∧ (d 9 = true → s 23 = .float .f64 y) ∧ (d 10 = true → ∃ r, s 24 = .float .f64 r ∧ R q r) ∧ (d 11 = true → s 25 = .pointer (some ⟨g, P, none⟩)) ∧ (d 1 = true → d 0 = true) ∧ (d 6 = true → d 5 = true) ∧ (d 8 = true → d 5 = true ∧ d 6 = true ∧ d 7 = true) ∧ (d 9 = true → d 5 = true ∧ d 6 = true ∧ d 7 = true ∧ d 8 = true) ∧ (d 10 = true → d 3 = true ∧ d 4 = true ∧ d 5 = true ∧ d 6 = true ∧ d 7 = true ∧ d 8 = true ∧ d 9 = true) ∧ (d 11 = true → d 0 = true ∧ d 1 = true ∧ d 2 = true) ∧ (d 12 = true → d 0 = true ∧ d 1 = true ∧ d 2 = true ∧ d 3 = true ∧ d 4 = true ∧ d 5 = true ∧ d 6 = true ∧ d 7 = true ∧ d 8 = true ∧ d 9 = true ∧ d 10 = true ∧ d 11 = true) ∧ ((d 12 = false → Below wr.heap.size wr W) ∧ (d 12 = true → Stored g P (R q) wr W)))
        rfl (by kernel_rfl) ?_ ?_ ?_
      · exact ⟨by simp, by simp, by simp, by simp, by simp, by simp, by simp, by simp, by simp, by simp, by simp, by simp, by simp, by simp, by simp, by simp, by simp, by simp, by simp, ⟨fun _ => (Below.refl _ _).drew, fun h => by simp at h⟩⟩
      · refine ⟨?_, ?_, ?_, ?_, ?_, ?_, ?_, ?_, ?_, ?_, ?_, ?_, ?_, trivial⟩
        all_goals
          intro d s W hJ hfr hd hdep
          simp only [List.mem_cons, forall_eq_or_imp, List.not_mem_nil, false_implies, implies_true, and_true, Region.binds] at hdep
          have f1 := hfr 1 (by decide)
          have f2 := hfr 2 (by decide)
          have f4 := hfr 4 (by decide)
          have f5 := hfr 5 (by decide)
          simp at f1 f2 f4 f5 hdep
          obtain ⟨h0, h1, h2, h3, h4, h5, h6, h7, h8, h9, h10, h11, x0, x1, x2, x3, x4, x5, x6, hT⟩ := hJ
          have hT0 := hT
          unfold OpSteps
        · have hl : d 12 = false := by
            cases h : d 12
            · rfl
            · have := x6 h; simp [hd] at this
          replace hT := hT.1 hl
          simp [go_sem, evS, f2]
          exact ⟨fun _ => by simp [sput], fun h => by simpa [sput] using h1 (by simpa [did] using h), fun h => by simpa [sput] using h2 (by simpa [did] using h), fun h => by simpa [sput] using h3 (by simpa [did] using h), fun h => by simpa [sput] using h4 (by simpa [did] using h), fun h => by simpa [sput] using h5 (by simpa [did] using h), fun h => by simpa [sput] using h6 (by simpa [did] using h), fun h => by simpa [sput] using h7 (by simpa [did] using h), fun h => by simpa [sput] using h8 (by simpa [did] using h), fun h => by simpa [sput] using h9 (by simpa [did] using h), fun h => by simpa [sput] using h10 (by simpa [did] using h), fun h => by simpa [sput] using h11 (by simpa [did] using h), fun h => by have := x0 (by simpa [did] using h); simp [did, this], fun h => by have := x1 (by simpa [did] using h); simp [did, this], fun h => by have := x2 (by simpa [did] using h); simp [did, this], fun h => by have := x3 (by simpa [did] using h); simp [did, this], fun h => by have := x4 (by simpa [did] using h); simp [did, this], fun h => by have := x5 (by simpa [did] using h); simp [did, this], fun h => by have := x6 (by simpa [did] using h); simp [did, this], ⟨fun _ => hT, fun h => by simp [did, hl] at h⟩⟩
        · have hl : d 12 = false := by
            cases h : d 12
            · rfl
            · have := x6 h; simp [hd] at this
          replace hT := hT.1 hl
          have g0 := h0 (by simp [hdep])
          obtain ⟨p0, p1, p2, p3⟩ := cells4w (HZ2.out.below hT HZ2.out.lt)
          simp [go_sem, evS, g0, p0, p1, p2, p3]
          exact ⟨fun h => by simpa [sput] using h0 (by simpa [did] using h), fun _ => by simp [sput], fun h => by simpa [sput] using h2 (by simpa [did] using h), fun h => by simpa [sput] using h3 (by simpa [did] using h), fun h => by simpa [sput] using h4 (by simpa [did] using h), fun h => by simpa [sput] using h5 (by simpa [did] using h), fun h => by simpa [sput] using h6 (by simpa [did] using h), fun h => by simpa [sput] using h7 (by simpa [did] using h), fun h => by simpa [sput] using h8 (by simpa [did] using h), fun h => by simpa [sput] using h9 (by simpa [did] using h), fun h => by simpa [sput] using h10 (by simpa [did] using h), fun h => by simpa [sput] using h11 (by simpa [did] using h), fun _ => by simp [did, hdep], fun h => by have := x1 (by simpa [did] using h); simp [did, this], fun h => by have := x2 (by simpa [did] using h); simp [did, this], fun h => by have := x3 (by simpa [did] using h); simp [did, this], fun h => by have := x4 (by simpa [did] using h); simp [did, this], fun h => by have := x5 (by simpa [did] using h); simp [did, this], fun h => by have := x6 (by simpa [did] using h); simp [did, this], ⟨fun _ => hT, fun h => by simp [did, hl] at h⟩⟩
        · have hl : d 12 = false := by
            cases h : d 12
            · rfl
            · have := x6 h; simp [hd] at this
          replace hT := hT.1 hl
          simp [go_sem, evS, f5]
          exact ⟨fun h => by simpa [sput] using h0 (by simpa [did] using h), fun h => by simpa [sput] using h1 (by simpa [did] using h), fun _ => by simp [sput], fun h => by simpa [sput] using h3 (by simpa [did] using h), fun h => by simpa [sput] using h4 (by simpa [did] using h), fun h => by simpa [sput] using h5 (by simpa [did] using h), fun h => by simpa [sput] using h6 (by simpa [did] using h), fun h => by simpa [sput] using h7 (by simpa [did] using h), fun h => by simpa [sput] using h8 (by simpa [did] using h), fun h => by simpa [sput] using h9 (by simpa [did] using h), fun h => by simpa [sput] using h10 (by simpa [did] using h), fun h => by simpa [sput] using h11 (by simpa [did] using h), fun h => by have := x0 (by simpa [did] using h); simp [did, this], fun h => by have := x1 (by simpa [did] using h); simp [did, this], fun h => by have := x2 (by simpa [did] using h); simp [did, this], fun h => by have := x3 (by simpa [did] using h); simp [did, this], fun h => by have := x4 (by simpa [did] using h); simp [did, this], fun h => by have := x5 (by simpa [did] using h); simp [did, this], fun h => by have := x6 (by simpa [did] using h); simp [did, this], ⟨fun _ => hT, fun h => by simp [did, hl] at h⟩⟩
        · have hl : d 12 = false := by
            cases h : d 12
            · rfl
            · have := x6 h; simp [hd] at this
          replace hT := hT.1 hl
          simp [go_sem, evS, f1]
          exact ⟨fun h => by simpa [sput] using h0 (by simpa [did] using h), fun h => by simpa [sput] using h1 (by simpa [did] using h), fun h => by simpa [sput] using h2 (by simpa [did] using h), fun _ => by simp [sput], fun h => by simpa [sput] using h4 (by simpa [did] using h), fun h => by simpa [sput] using h5 (by simpa [did] using h), fun h => by simpa [sput] using h6 (by simpa [did] using h), fun h => by simpa [sput] using h7 (by simpa [did] using h), fun h => by simpa [sput] using h8 (by simpa [did] using h), fun h => by simpa [sput] using h9 (by simpa [did] using h), fun h => by simpa [sput] using h10 (by simpa [did] using h), fun h => by simpa [sput] using h11 (by simpa [did] using h), fun h => by have := x0 (by simpa [did] using h); simp [did, this], fun h => by have := x1 (by simpa [did] using h); simp [did, this], fun h => by have := x2 (by simpa [did] using h); simp [did, this], fun h => by have := x3 (by simpa [did] using h); simp [did, this], fun h => by have := x4 (by simpa [did] using h); simp [did, this], fun h => by have := x5 (by simpa [did] using h); simp [did, this], fun h => by have := x6 (by simpa [did] using h); simp [did, this], ⟨fun _ => hT, fun h => by simp [did, hl] at h⟩⟩
        · have hl : d 12 = false := by
            cases h : d 12
            · rfl
            · have := x6 h; simp [hd] at this
          replace hT := hT.1 hl
          simp [go_sem, evS, f4]
          exact ⟨fun h => by simpa [sput] using h0 (by simpa [did] using h), fun h => by simpa [sput] using h1 (by simpa [did] using h), fun h => by simpa [sput] using h2 (by simpa [did] using h), fun h => by simpa [sput] using h3 (by simpa [did] using h), fun _ => by simp [sput], fun h => by simpa [sput] using h5 (by simpa [did] using h), fun h => by simpa [sput] using h6 (by simpa [did] using h), fun h => by simpa [sput] using h7 (by simpa [did] using h), fun h => by simpa [sput] using h8 (by simpa [did] using h), fun h => by simpa [sput] using h9 (by simpa [did] using h), fun h => by simpa [sput] using h10 (by simpa [did] using h), fun h => by simpa [sput] using h11 (by simpa [did] using h), fun h => by have := x0 (by simpa [did] using h); simp [did, this], fun h => by have := x1 (by simpa [did] using h); simp [did, this], fun h => by have := x2 (by simpa [did] using h); simp [did, this], fun h => by have := x3 (by simpa [did] using h); simp [did, this], fun h => by have := x4 (by simpa [did] using h); simp [did, this], fun h => by have := x5 (by simpa [did] using h); simp [did, this], fun h => by have := x6 (by simpa [did] using h); simp [did, this], ⟨fun _ => hT, fun h => by simp [did, hl] at h⟩⟩
        · have hl : d 12 = false := by
            cases h : d 12
            · rfl
            · have := x6 h; simp [hd] at this
          replace hT := hT.1 hl
          simp [go_sem, evS, f2]
          exact ⟨fun h => by simpa [sput] using h0 (by simpa [did] using h), fun h => by simpa [sput] using h1 (by simpa [did] using h), fun h => by simpa [sput] using h2 (by simpa [did] using h), fun h => by simpa [sput] using h3 (by simpa [did] using h), fun h => by simpa [sput] using h4 (by simpa [did] using h), fun _ => by simp [sput], fun h => by simpa [sput] using h6 (by simpa [did] using h), fun h => by simpa [sput] using h7 (by simpa [did] using h), fun h => by simpa [sput] using h8 (by simpa [did] using h), fun h => by simpa [sput] using h9 (by simpa [did] using h), fun h => by simpa [sput] using h10 (by simpa [did] using h), fun h => by simpa [sput] using h11 (by simpa [did] using h), fun h => by have := x0 (by simpa [did] using h); simp [did, this], fun h => by have := x1 (by simpa [did] using h); simp [did, this], fun h => by have := x2 (by simpa [did] using h); simp [did, this], fun h => by have := x3 (by simpa [did] using h); simp [did, this], fun h => by have := x4 (by simpa [did] using h); simp [did, this], fun h => by have := x5 (by simpa [did] using h); simp [did, this], fun h => by have := x6 (by simpa [did] using h); simp [did, this], ⟨fun _ => hT, fun h => by simp [did, hl] at h⟩⟩
        · have hl : d 12 = false := by
            cases h : d 12
            · rfl
            · have := x6 h; simp [hd] at this
          replace hT := hT.1 hl
          have g5 := h5 (by simp [hdep])
          obtain ⟨p0, p1, p2, p3⟩ := cells4w (HZ2.out.below hT HZ2.out.lt)
          simp [go_sem, evS, g5, p0, p1, p2, p3]
          exact ⟨fun h => by simpa [sput] using h0 (by simpa [did] using h), fun h => by simpa [sput] using h1 (by simpa [did] using h), fun h => by simpa [sput] using h2 (by simpa [did] using h), fun h => by simpa [sput] using h3 (by simpa [did] using h), fun h => by simpa [sput] using h4 (by simpa [did] using h), fun h => by simpa [sput] using h5 (by simpa [did] using h), fun _ => by simp [sput], fun h => by simpa [sput] using h7 (by simpa [did] using h), fun h => by simpa [sput] using h8 (by simpa [did] using h), fun h => by simpa [sput] using h9 (by simpa [did] using h), fun h => by simpa [sput] using h10 (by simpa [did] using h), fun h => by simpa [sput] using h11 (by simpa [did] using h), fun h => by have := x0 (by simpa [did] using h); simp [did, this], fun _ => by simp [did, hdep], fun h => by have := x2 (by simpa [did] using h); simp [did, this], fun h => by have := x3 (by simpa [did] using h); simp [did, this], fun h => by have := x4 (by simpa [did] using h); simp [did, this], fun h => by have := x5 (by simpa [did] using h); simp [did, this], fun h => by have := x6 (by simpa [did] using h); simp [did, this], ⟨fun _ => hT, fun h => by simp [did, hl] at h⟩⟩
        · have hl : d 12 = false := by
            cases h : d 12
            · rfl
            · have := x6 h; simp [hd] at this
          replace hT := hT.1 hl
          simp [go_sem, evS, f5]
          exact ⟨fun h => by simpa [sput] using h0 (by simpa [did] using h), fun h => by simpa [sput] using h1 (by simpa [did] using h), fun h => by simpa [sput] using h2 (by simpa [did] using h), fun h => by simpa [sput] using h3 (by simpa [did] using h), fun h => by simpa [sput] using h4 (by simpa [did] using h), fun h => by simpa [sput] using h5 (by simpa [did] using h), fun h => by simpa [sput] using h6 (by simpa [did] using h), fun _ => by simp [sput], fun h => by simpa [sput] using h8 (by simpa [did] using h), fun h => by simpa [sput] using h9 (by simpa [did] using h), fun h => by simpa [sput] using h10 (by simpa [did] using h), fun h => by simpa [sput] using h11 (by simpa [did] using h), fun h => by have := x0 (by simpa [did] using h); simp [did, this], fun h => by have := x1 (by simpa [did] using h); simp [did, this], fun h => by have := x2 (by simpa [did] using h); simp [did, this], fun h => by have := x3 (by simpa [did] using h); simp [did, this], fun h => by have := x4 (by simpa [did] using h); simp [did, this], fun h => by have := x5 (by simpa [did] using h); simp [did, this], fun h => by have := x6 (by simpa [did] using h); simp [did, this], ⟨fun _ => hT, fun h => by simp [did, hl] at h⟩⟩
        · have hl : d 12 = false := by
            cases h : d 12
            · rfl
            · have := x6 h; simp [hd] at this
          replace hT := hT.1 hl
          have g6 := h6 (by simp [hdep])
          have g7 := h7 (by simp [hdep])
          simp [go_sem, evS, g6, g7, b2]
          exact ⟨fun h => by simpa [sput] using h0 (by simpa [did] using h), fun h => by simpa [sput] using h1 (by simpa [did] using h), fun h => by simpa [sput] using h2 (by simpa [did] using h), fun h => by simpa [sput] using h3 (by simpa [did] using h), fun h => by simpa [sput] using h4 (by simpa [did] using h), fun h => by simpa [sput] using h5 (by simpa [did] using h), fun h => by simpa [sput] using h6 (by simpa [did] using h), fun h => by simpa [sput] using h7 (by simpa [did] using h), fun _ => by simp [sput], fun h => by simpa [sput] using h9 (by simpa [did] using h), fun h => by simpa [sput] using h10 (by simpa [did] using h), fun h => by simpa [sput] using h11 (by simpa [did] using h), fun h => by have := x0 (by simpa [did] using h); simp [did, this], fun h => by have := x1 (by simpa [did] using h); simp [did, this], fun _ => by have y6 := x1 (by simp [hdep]); simp [did, hdep, y6], fun h => by have := x3 (by simpa [did] using h); simp [did, this], fun h => by have := x4 (by simpa [did] using h); simp [did, this], fun h => by have := x5 (by simpa [did] using h); simp [did, this], fun h => by have := x6 (by simpa [did] using h); simp [did, this], ⟨fun _ => hT, fun h => by simp [did, hl] at h⟩⟩
        · have hl : d 12 = false := by
            cases h : d 12
            · rfl
            · have := x6 h; simp [hd] at this
          replace hT := hT.1 hl
          have g8 := h8 (by simp [hdep])
          have pc := cell_below HCe.out hT
          simp [go_sem, evS, g8, pc]
          exact ⟨fun h => by simpa [sput] using h0 (by simpa [did] using h), fun h => by simpa [sput] using h1 (by simpa [did] using h), fun h => by simpa [sput] using h2 (by simpa [did] using h), fun h => by simpa [sput] using h3 (by simpa [did] using h), fun h => by simpa [sput] using h4 (by simpa [did] using h), fun h => by simpa [sput] using h5 (by simpa [did] using h), fun h => by simpa [sput] using h6 (by simpa [did] using h), fun h => by simpa [sput] using h7 (by simpa [did] using h), fun h => by simpa [sput] using h8 (by simpa [did] using h), fun _ => by simp [sput], fun h => by simpa [sput] using h10 (by simpa [did] using h), fun h => by simpa [sput] using h11 (by simpa [did] using h), fun h => by have := x0 (by simpa [did] using h); simp [did, this], fun h => by have := x1 (by simpa [did] using h); simp [did, this], fun h => by have := x2 (by simpa [did] using h); simp [did, this], fun _ => by have y8 := x2 (by simp [hdep]); simp [did, hdep, y8], fun h => by have := x4 (by simpa [did] using h); simp [did, this], fun h => by have := x5 (by simpa [did] using h); simp [did, this], fun h => by have := x6 (by simpa [did] using h); simp [did, this], ⟨fun _ => hT, fun h => by simp [did, hl] at h⟩⟩
        · have hl : d 12 = false := by
            cases h : d 12
            · rfl
            · have := x6 h; simp [hd] at this
          replace hT := hT.1 hl
          have g3 := h3 (by simp [hdep])
          have g4 := h4 (by simp [hdep])
          have g9 := h9 (by simp [hdep])
          simp [go_sem, evS, g3, g4, g9, HF.out]
          refine (HC.out W (HIb.out _ _ HI.out hT)).mono ?_
          rintro e W' ⟨r, rfl, hr, hb⟩
          refine ⟨_, rfl, ?_⟩
          exact ⟨fun h => by simpa [sput] using h0 (by simpa [did] using h), fun h => by simpa [sput] using h1 (by simpa [did] using h), fun h => by simpa [sput] using h2 (by simpa [did] using h), fun h => by simpa [sput] using h3 (by simpa [did] using h), fun h => by simpa [sput] using h4 (by simpa [did] using h), fun h => by simpa [sput] using h5 (by simpa [did] using h), fun h => by simpa [sput] using h6 (by simpa [did] using h), fun h => by simpa [sput] using h7 (by simpa [did] using h), fun h => by simpa [sput] using h8 (by simpa [did] using h), fun h => by simpa [sput] using h9 (by simpa [did] using h), fun _ => ⟨r, by simp [sput], hr⟩, fun h => by simpa [sput] using h11 (by simpa [did] using h), fun h => by have := x0 (by simpa [did] using h); simp [did, this], fun h => by have := x1 (by simpa [did] using h); simp [did, this], fun h => by have := x2 (by simpa [did] using h); simp [did, this], fun h => by have := x3 (by simpa [did] using h); simp [did, this], fun _ => by have y9 := x3 (by simp [hdep]); simp [did, hdep, y9], fun h => by have := x5 (by simpa [did] using h); simp [did, this], fun h => by have := x6 (by simpa [did] using h); simp [did, this], ⟨fun _ => below_nx hT hb, fun h => by simp [did, hl] at h⟩⟩
        · have hl : d 12 = false := by
            cases h : d 12
            · rfl
            · have := x6 h; simp [hd] at this
          replace hT := hT.1 hl
          have g1 := h1 (by simp [hdep])
          have g2 := h2 (by simp [hdep])
          simp [go_sem, evS, g1, g2, b2]
          exact ⟨fun h => by simpa [sput] using h0 (by simpa [did] using h), fun h => by simpa [sput] using h1 (by simpa [did] using h), fun h => by simpa [sput] using h2 (by simpa [did] using h), fun h => by simpa [sput] using h3 (by simpa [did] using h), fun h => by simpa [sput] using h4 (by simpa [did] using h), fun h => by simpa [sput] using h5 (by simpa [did] using h), fun h => by simpa [sput] using h6 (by simpa [did] using h), fun h => by simpa [sput] using h7 (by simpa [did] using h), fun h => by simpa [sput] using h8 (by simpa [did] using h), fun h => by simpa [sput] using h9 (by simpa [did] using h), fun h => by simpa [sput] using h10 (by simpa [did] using h), fun _ => by simp [sput], fun h => by have := x0 (by simpa [did] using h); simp [did, this], fun h => by have := x1 (by simpa [did] using h); simp [did, this], fun h => by have := x2 (by simpa [did] using h); simp [did, this], fun h => by have := x3 (by simpa [did] using h); simp [did, this], fun h => by have := x4 (by simpa [did] using h); simp [did, this], fun _ => by have y1 := x0 (by simp [hdep]); simp [did, hdep, y1], fun h => by have := x6 (by simpa [did] using h); simp [did, this], ⟨fun _ => hT, fun h => by simp [did, hl] at h⟩⟩
        · have g11 := h11 (by simp [hdep])
          have g10 := h10 (by simp [hdep])
          replace hT := hT.1 hd
          obtain ⟨r, gr, hr⟩ := g10
          have hfz := frz_below HFz.out hlt0 hT
          have hcl := cell_below HCe.out hT
          simp [go_sem, evS, g11, gr, hfz, hcl]
          exact ⟨fun h => by simpa [sput] using h0 (by simpa [did] using h), fun h => by simpa [sput] using h1 (by simpa [did] using h), fun h => by simpa [sput] using h2 (by simpa [did] using h), fun h => by simpa [sput] using h3 (by simpa [did] using h), fun h => by simpa [sput] using h4 (by simpa [did] using h), fun h => by simpa [sput] using h5 (by simpa [did] using h), fun h => by simpa [sput] using h6 (by simpa [did] using h), fun h => by simpa [sput] using h7 (by simpa [did] using h), fun h => by simpa [sput] using h8 (by simpa [did] using h), fun h => by simpa [sput] using h9 (by simpa [did] using h), fun h => by simpa [sput] using h10 (by simpa [did] using h), fun h => by simpa [sput] using h11 (by simpa [did] using h), fun h => by have := x0 (by simpa [did] using h); simp [did, this], fun h => by have := x1 (by simpa [did] using h); simp [did, this], fun h => by have := x2 (by simpa [did] using h); simp [did, this], fun h => by have := x3 (by simpa [did] using h); simp [did, this], fun h => by have := x4 (by simpa [did] using h); simp [did, this], fun h => by have := x5 (by simpa [did] using h); simp [did, this], fun _ => by have y10 := x4 (by simp [hdep]); have y11 := x5 (by simp [hdep]); simp [did, hdep, y10, y11], ⟨fun h => by simp [did] at h, fun _ => ⟨W, r, hT, rfl, hr⟩⟩⟩
      intro d s W hJ hd
      obtain ⟨h0, h1, h2, h3, h4, h5, h6, h7, h8, h9, h10, h11, x0, x1, x2, x3, x4, x5, x6, hT⟩ := hJ
      obtain ⟨W', r, hbw, rfl, hr⟩ := hT.2 (hd 12 (by decide))
      have HR := Lib.hid hr
      have HBw := Lib.hid hbw
      clear h0 h1 h2 h3 h4 h5 h6 h7 h8 h9 h10 h11 x0 x1 x2 x3 x4 x5 x6 hT hd hbw hr
      simp [setAll]
      generalize s 14 = s14
      generalize s 15 = s15
      generalize s 16 = s16
      generalize s 17 = s17
      generalize s 18 = s18
      generalize s 19 = s19
      generalize s 20 = s20
      generalize s 21 = s21
      generalize s 22 = s22
      generalize s 23 = s23
      generalize s 24 = s24
      generalize s 25 = s25
      go_wp2_with fail
      go_roundw
      case rel => exact ⟨q + 1, m ++ [r], by omega, by go_num, HDone.out r HR.out W' HBw.out⟩
      case measure => simp [intOf]; omega
    · obtain rfl : q = K := by omega
      have hqc : ¬ (q : Int) < (q : Int) := by omega
      go_wp2_with fail
      go_end0
      obtain ⟨e1, e2, e3, e4, e5, e6⟩ := HH.out
      exact ⟨rfl, m, e1, e2, e3, e4, e5⟩
end Go.Proofs.Ytjjneiidggcfdaa
set_option linter.unusedVariables false
set_option linter.unusedSimpArgs false
namespace Go.Proofs.Ytjjneiidggcfdaa
open Go.RowKit
attribute [local go_sem ↓] Go.wp_at_zero Go.wp_at_succ

theorem axaxpy_enters : Enters Try.prog 55 := enters_of Try.func55 (by kernel_rfl) rfl

set_option maxRecDepth 100000 in
set_option maxHeartbeats 1000000 in
theorem axpy_err (a g g' c c' : Nat) (l l' : List Nat) (n n' : Nat) (off k inc off' k' inc' : Int) (w : World) (hO : Own w g l) (hO' : Own w g' l') (hln : l.length = n) (hln' : l'.length = n') (hn : n < 9223372036854775808) (hn' : n' < 9223372036854775808)
    (ho : I64 off) (hk : I64 k) (hi : I64 inc) (ho' : I64 off') (hk' : I64 k') (hi' : I64 inc') (P : Int) (hP : pairI (decide (g = g')) n off k inc n' off' k' inc' = P) (h0 : P ≠ 0) :
    Calls Try.prog 24 #[.float .f64 a, vec (some ⟨g', 0, none⟩) n' c' off' k' inc', vec (some ⟨g, 0, none⟩) n c off k inc] w fun e w' => e = .returned (.int .i64 P) ∧ Below w.heap.size w w' := by
  have HPr := Lib.hid (fun W (hb : Below w.heap.size w W) => pair_any g g' c c' l l' n n' off k inc off' k' inc' W (hO.nxt hb) (hO'.nxt hb) hln hln' hn hn' ho hk hi ho' hk' hi')
  rw [hP] at HPr
  have ht : (P == 0) = false := by simp [h0]
  have ht2 : (P != 0) = true := by simp [h0]
  clear hO hO' hln hln' hn hn' ho hk hi ho' hk' hi' hP h0
  unfold vec at *
  go_enter Try.func24, Try.ntmps24
  have HB0 := Lib.hid ((((Below.refl w.heap.size w).alloc (Nat.le_refl _) (.cells #[.float .f64 a] 25)).alloc (by simp) (.cells #[.slice (some ⟨g', 0, none⟩) n' c', .int .i64 off', .int .i64 k', .int .i64 inc'] 30)).alloc (by simp; omega) (.cells #[.slice (some ⟨g, 0, none⟩) n c, .int .i64 off, .int .i64 k, .int .i64 inc] 30))
  have HX := Lib.hid ((Blk.new_ (w.alloc (.cells #[.float .f64 a] 25)) 30 #[.slice (some ⟨g', 0, none⟩) n' c', .int .i64 off', .int .i64 k', .int .i64 inc'] (w.heap.size + 1) (by simp)).alloc (.cells #[.slice (some ⟨g, 0, none⟩) n c, .int .i64 off, .int .i64 k, .int .i64 inc] 30))
  obtain ⟨x0, x1, x2, x3⟩ := cells4w HX.out
  have HY := Lib.hid (Blk.new_ ((w.alloc (.cells #[.float .f64 a] 25)).alloc (.cells #[.slice (some ⟨g', 0, none⟩) n' c', .int .i64 off', .int .i64 k', .int .i64 inc'] 30)) 30 #[.slice (some ⟨g, 0, none⟩) n c, .int .i64 off, .int .i64 k, .int .i64 inc] (w.heap.size + 1 + 1) (by simp))
  obtain ⟨y0, y1, y2, y3⟩ := cells4w HY.out
  go_wp2_with fail
  refine (HPr.out _ HB0.out).mono ?_
  rintro e w1 ⟨rfl, hb⟩
  have HB1 := Lib.hid (below_nx HB0.out hb)
  clear hb x0 x1 x2 x3 y0 y1 y2 y3
  go_wp2_with fail
  go_ret
  exact ⟨rfl, HB1.out⟩

/-- What Axpy makes of a number. -/
def AxR (a : Nat) (l : List Nat) (o i : Nat) (l' : List Nat) (o' i' : Nat) (q r : Nat) : Prop := ∃ p, Comes .mul a (l'.getD (o' + q * i') 0) p ∧ Comes .add (l.getD (o + q * i) 0) p r

set_option maxRecDepth 100000 in
set_option maxHeartbeats 1000000 in
theorem axpy_ok (a g g' c c' : Nat) (l l' : List Nat) (n n' : Nat) (o K i o' i' : Nat) (w : World) (hO : Own w g l) (hO' : Own w g' l') (hln : l.length = n) (hln' : l'.length = n') (hn : n < 1048576) (hn' : n' < 1048576)
    (hi1 : 1 ≤ i) (hr : K = 0 ∨ o + (K - 1) * i < n) (hr' : K = 0 ∨ o' + (K - 1) * i' < n') (ho : I64 o) (hk : I64 K) (hi : I64 i) (ho' : I64 o') (hi' : I64 i') (hP : pairI (decide (g = g')) n o K i n' o' K i' = 0) (hm : g = g' → metB o i o' i' K = false) :
    Calls Try.prog 24 #[.float .f64 a, vec (some ⟨g', 0, none⟩) n' c' o' K i', vec (some ⟨g, 0, none⟩) n c o K i] w fun e w' => e = .returned (.int .i64 0) ∧
      ∃ m : List Nat, m.length = K ∧ (∀ q, q < K → AxR a l o i l' o' i' q (m.getD q 0)) ∧ Own w' g (wrt l o i m K) ∧ Chg [g] w w' := by
  have HPr := Lib.hid (fun W (hb : Below w.heap.size w W) => pair_any g g' c c' l l' n n' o K i o' K i' W (hO.nxt hb) (hO'.nxt hb) hln hln' (by omega) (by omega) ho hk hi ho' hk hi')
  rw [hP] at HPr
  have HRx := Lib.hid (fun q (h : q < K) => show o' + q * i' < n' from by
    rcases hr' with h0 | h0
    · omega
    · exact place_lt h0 h)
  have HEa := Lib.hid (fun W (ga z : Nat) (hb : Below w.heap.size w W) (hz : w.heap.size ≤ ga) (hz2 : w.heap.size ≤ z) (hA : W.cell? ⟨ga, 0, none⟩ = some (.float .f64 a)) (hX : Blk W z 30 #[.slice (some ⟨g', 0, none⟩) n' c', .int .i64 o', .int .i64 K, .int .i64 i']) =>
    each_any 55 #[.pointer (some ⟨ga, 0, none⟩), .pointer (some ⟨z, 0, none⟩)]
      (fun W => W.cell? ⟨ga, 0, none⟩ = some (.float .f64 a) ∧ Blk W z 30 #[.slice (some ⟨g', 0, none⟩) n' c', .int .i64 o', .int .i64 K, .int .i64 i'] ∧ ∀ q, q < K → W.cell? ⟨g', 0 + (o' + q * i'), none⟩ = some (.float .f64 (l'.getD (o' + q * i') 0)))
      (AxR a l o i l' o' i') g n c l o K i W (fun args W => axaxpy_enters args W) (hO.nxt hb) hln hn hi1 hr
      ⟨hA, hX, fun q hq => by
        have h1 := HRx.out q hq
        have h2 : o' + q * i' < l'.length := by omega
        rw [Nat.zero_add, getD_of_lt h2]
        exact (hO'.nxt hb).get _ h2⟩
      (fun W W' h hb' => ⟨cell_below h.1 hb', h.2.1.nxt hb', fun q hq => cell_below (h.2.2 q hq) hb'⟩)
      (fun W q v hq h => ⟨(cell_set (by have := hO.lt; omega) _).trans h.1, h.2.1.other (by show z ≠ g; have := hO.lt; omega) _, fun j hj => by
        by_cases e : g = g'
        · refine (World.cell?_setCell_other W _ _ _ ?_).trans (h.2.2 j hj)
          intro e2
          have := metB_false.1 (hm e) q hq j hj
          injection e2 with _ e3
          omega
        · exact (cell_set (fun e2 => e e2.symm) _).trans (h.2.2 j hj)⟩)
      (fun W q hq h => by
        have := axaxpy_one a (l'.getD (o' + q * i') 0) (l.getD (o + q * i) 0) ga z g' 0 n' c' o' K i' q W h.1 h.2.1 (h.2.2 q hq) (HRx.out q hq) hn'
        exact this.mono fun e w' ⟨p, r, e1, e2, e3, e4⟩ => ⟨r, e1, ⟨p, e2, e3⟩, e4⟩))
  clear hO hO' hln hln' hn hn' ho hk hi ho' hi' hP hr hr' hi1 hm HRx
  unfold vec at *
  go_enter Try.func24, Try.ntmps24
  have HA0 := Lib.hid (show _ from (((Blk.new w 25 #[.float .f64 a]).alloc (.cells #[.slice (some ⟨g', 0, none⟩) n' c', .int .i64 o', .int .i64 K, .int .i64 i'] 30)).alloc (.cells #[.slice (some ⟨g, 0, none⟩) n c, .int .i64 o, .int .i64 K, .int .i64 i] 30)).cell 0)
  have HB0 := Lib.hid ((((Below.refl w.heap.size w).alloc (Nat.le_refl _) (.cells #[.float .f64 a] 25)).alloc (by simp) (.cells #[.slice (some ⟨g', 0, none⟩) n' c', .int .i64 o', .int .i64 K, .int .i64 i'] 30)).alloc (by simp; omega) (.cells #[.slice (some ⟨g, 0, none⟩) n c, .int .i64 o, .int .i64 K, .int .i64 i] 30))
  have HX := Lib.hid ((Blk.new_ (w.alloc (.cells #[.float .f64 a] 25)) 30 #[.slice (some ⟨g', 0, none⟩) n' c', .int .i64 o', .int .i64 K, .int .i64 i'] (w.heap.size + 1) (by simp)).alloc (.cells #[.slice (some ⟨g, 0, none⟩) n c, .int .i64 o, .int .i64 K, .int .i64 i] 30))
  obtain ⟨x0, x1, x2, x3⟩ := cells4w HX.out
  have HY := Lib.hid (Blk.new_ ((w.alloc (.cells #[.float .f64 a] 25)).alloc (.cells #[.slice (some ⟨g', 0, none⟩) n' c', .int .i64 o', .int .i64 K, .int .i64 i'] 30)) 30 #[.slice (some ⟨g, 0, none⟩) n c, .int .i64 o, .int .i64 K, .int .i64 i] (w.heap.size + 1 + 1) (by simp))
  obtain ⟨y0, y1, y2, y3⟩ := cells4w HY.out
  go_wp2_with fail
  refine (HPr.out _ HB0.out).mono ?_
  rintro e w1 ⟨rfl, hb⟩
  have HB1 := Lib.hid (below_nx HB0.out hb)
  have HA1 := Lib.hid (cell_below HA0.out hb)
  have HX1 := Lib.hid (HX.out.nxt hb)
  have HY1 := Lib.hid (HY.out.nxt hb)
  clear hb x0 x1 x2 x3 y0 y1 y2 y3
  obtain ⟨y0, y1, y2, y3⟩ := cells4w HY1.out
  go_wp2_with fail
  refine (HEa.out _ _ _ HB1.out (Nat.le_refl _) (by omega) HA1.out HX1.out).mono ?_
  rintro e w2 ⟨rfl, m, hm1, hm2, hm3, hm4, hm5⟩
  have HM := Lib.hid (And.intro hm1 (And.intro hm2 (And.intro hm3 hm5)))
  clear hm1 hm2 hm3 hm4 hm5 y0 y1 y2 y3
  go_wp2_with fail
  go_ret
  exact ⟨rfl, m, HM.out.1, HM.out.2.1, HM.out.2.2.1, (Chg.of_below HB1.out).trans HM.out.2.2.2⟩
end Go.Proofs.Ytjjneiidggcfdaa
set_option linter.unusedVariables false
set_option linter.unusedSimpArgs false
set_option linter.unnecessarySimpa false
namespace Go.Proofs.Ytjjneiidggcfdaa
open Go.RowKit
attribute [local go_sem ↓] Go.wp_at_zero Go.wp_at_succ

theorem getD_wds {l : List Nat} (h : Wds l) (k : Nat) : l.getD k 0 < 18446744073709551616 := by
  rcases Nat.lt_or_ge k l.length with h1 | h1
  · rw [getD_of_lt h1]; exact h.at_ k h1
  · rw [getD_of_le h1]; omega
end Go.Proofs.Ytjjneiidggcfdaa
set_option linter.unusedVariables false
set_option linter.unusedSimpArgs false
namespace Go.Proofs.Ytjjneiidggcfdaa
open Go.RowKit
attribute [local go_sem ↓] Go.wp_at_zero Go.wp_at_succ

set_option maxHeartbeats 1000000 in
theorem axscal_err (a : Nat) (A : Option Addr) (n c : Nat) (off k inc : Int) (w : World) (hn : n < 9223372036854775808) (ho : I64 off) (hk : I64 k) (hi : I64 inc) (hv : vecB n off k inc = false) :
    Calls Try.prog 30 #[.float .f64 a, vec A n c off k inc] w fun e w' => e = .returned (.int .i64 1) ∧ Below w.heap.size w w' := by
  have HR := Lib.hid (fun W => right_any A n c off k inc W hn ho hk hi)
  rw [hv] at HR
  clear hn ho hk hi hv
  unfold vec at *
  go_enter Try.func30, Try.ntmps30
  have HB0 := Lib.hid (((Below.refl w.heap.size w).alloc (Nat.le_refl _) (.cells #[.float .f64 a] 25)).alloc (by simp) (.cells #[.slice A n c, .int .i64 off, .int .i64 k, .int .i64 inc] 30))
  have HX := Lib.hid (Blk.new_ (w.alloc (.cells #[.float .f64 a] 25)) 30 #[.slice A n c, .int .i64 off, .int .i64 k, .int .i64 inc] (w.heap.size + 1) (by simp))
  obtain ⟨x0, x1, x2, x3⟩ := cells4w HX.out
  go_wp2_with fail
  refine (HR.out _).mono ?_
  rintro e w1 ⟨rfl, hb⟩
  have HB1 := Lib.hid (below_nx HB0.out hb)
  clear hb x0 x1 x2 x3
  go_wp2_with fail
  go_ret
  exact ⟨rfl, HB1.out⟩

theorem wrt_whole (l m : List Nat) (K : Nat) (hl : l.length = K) (hm : m.length = K) : wrt l 0 1 m K = m := by
  refine ext_getD (by rw [wrt_length, hl, hm]) fun j hj => ?_
  rw [wrt_length] at hj
  have := wrt_at l 0 1 m K (Nat.le_refl _) (by by_cases h : K = 0; exact .inl h; exact .inr (by omega)) (i := j) (by omega)
  simpa using this
end Go.Proofs.Ytjjneiidggcfdaa
set_option linter.unusedVariables false
set_option linter.unusedSimpArgs false
set_option linter.unnecessarySimpa false
namespace Go.Proofs.Ytjjneiidggcfdaa
open Go.RowKit
attribute [local go_sem ↓] Go.wp_at_zero Go.wp_at_succ

/-- A list that is being made longer by one number. -/
def ApS (Z : Nat) (L : List Value) (R : Nat → Prop) (w wr : World) (db da : Bool) (vb va : Value) (W : World) : Prop :=
  (da = false → Below wr.heap.size wr W ∧ (db = true → ∃ g r, vb = .slice (some ⟨g, 0, none⟩) 1 1 ∧ W.cell? ⟨g, 0, none⟩ = some (.float .f64 r) ∧ R r)) ∧
  (da = true → ∃ r, R r ∧ W.ownsRow Z 25 1 va (L.length + 1) (L ++ [.float .f64 r]) ∧ Below w.heap.size w W)
theorem ApS.nxt {Z : Nat} {L : List Value} {R : Nat → Prop} {w wr : World} {db : Bool} {vb va : Value} {W W' : World} (h : ApS Z L R w wr db false vb va W) (hb : Below W.heap.size W W') : ApS Z L R w wr db false vb va W' :=
  ⟨fun _ => ⟨below_nx (h.1 rfl).1 hb, fun e => by
    obtain ⟨g, r, h1, h2, h3⟩ := (h.1 rfl).2 e
    exact ⟨g, r, h1, cell_below h2 hb, h3⟩⟩, fun e => by cases e⟩
theorem ApS.made {Z : Nat} {L : List Value} {R : Nat → Prop} {w wr : World} {vb va : Value} {W : World} {r : Nat} (h : ApS Z L R w wr false false vb va W) (hr : R r) :
    ApS Z L R w wr true false (.slice (some ⟨W.heap.size, 0, none⟩) 1 1) va (W.alloc (.cells #[.float .f64 r] 25)) :=
  ⟨fun _ => ⟨below_nx (h.1 rfl).1 below_one, fun _ => ⟨_, r, rfl, (Blk.new W 25 #[.float .f64 r]).cell 0, hr⟩⟩, fun e => by cases e⟩
theorem ApS.app {Z : Nat} {L : List Value} {R : Nat → Prop} {w wr : World} {vb va out : Value} {W : World} (h : ApS Z L R w wr true false vb va W) (hout : wr.ownsRow Z 25 1 out L.length L) (hbl : Below w.heap.size w wr) (hZ : w.heap.size ≤ Z) (hZ2 : Z ≤ wr.heap.size) (hq : L.length + 1 ≤ 1048576) :
    ∃ g v' w', vb = .slice (some ⟨g, 0, none⟩) 1 1 ∧ (Builtin.append_ #[22, 22] 22 #[out, .slice (some ⟨g, 0, none⟩) 1 1]).run Try.prog W = .ok v' w' ∧ ApS Z L R w wr true true vb v' w' := by
  obtain ⟨i0, hi, hz0, hz1, hz2⟩ := fi0
  obtain ⟨hb, hx⟩ := h.1 rfl
  obtain ⟨g, r, e1, e2, e3⟩ := hx rfl
  have hO : W.ownsRow Z 25 1 out L.length L := hout.kept (row := none) ⟨hb.os, hb.tape, hb.output, hb.size, fun k hk _ => hb.block k hk⟩ (by cases out.ownBlock <;> simp)
  obtain ⟨v', w', r1, r2, r3, _⟩ := run_append_own W Z 22 22 25 i0 (.float .f64 0) 1 8 Try.underlying22 hi hz0 hz1 hz2 rfl (by decide) out L.length L hO ⟨g, 0, none⟩ 1 1 [.float .f64 r] rfl
    (by
      intro j u hj
      match j, hj with
      | 0, hj =>
        have : u = .float .f64 r := by simpa using hj.symm
        subst this
        exact e2
      | j + 1, hj => simp at hj) (by intro u hu; simp at hu; subst hu; rfl) (by unfold maxLen; omega) (by omega) (by have := hb.size; omega)
  refine ⟨g, v', w', e1, r1, ⟨(fun e => by cases e), fun _ => ⟨r, e3, r2, ?_⟩⟩⟩
  exact (below_nx hbl hb).grown r3 (below_nx hbl hb).size (fun k hk => by have := (hO.lt k hk).1; omega)
/-- The call returned a list of n numbers of which this holds. -/
def RetL (R : Nat → Nat → Prop) (n : Nat) (w : World) (e : Ending) (w' : World) : Prop :=
  ∃ B d m, e = .returned (.slice B n d) ∧ m.length = n ∧ (∀ q, q < n → R q (m.getD q 0)) ∧ Row w' B (f64s m) ∧ Below w.heap.size w w'
/-- What Axpy makes of a number. -/
def AxQ (a : Nat) (l l' : List Nat) (q r : Nat) : Prop := ∃ p, Comes .mul a (l.getD q 0) p ∧ Comes .add (l'.getD q 0) p r
theorem AxQ_all {R : Nat → Nat → Prop} {L : List Nat} {q r : Nat} (hl : L.length = q) (h : ∀ j, j < q → R j (L.getD j 0)) (hr : R q r) : ∀ j, j < q + 1 → R j ((L ++ [r]).getD j 0) := by
  intro j hj
  by_cases h1 : j < q
  · have : (L ++ [r]).getD j 0 = L.getD j 0 := by simp [List.getD, List.getElem?_append_left (show j < L.length by omega)]
    rw [this]; exact h j h1
  · obtain rfl : j = q := by omega
    have : (L ++ [r]).getD j 0 = r := by simp [List.getD, ← hl]
    rw [this]; exact hr
set_option maxRecDepth 100000 in
set_option maxHeartbeats 1000000 in
theorem raxpy_any (a : Nat) (A A' : Option Addr) (n n' c c' : Nat) (l l' : List Nat) (w : World) (hA : Row w A (f64s l)) (hA' : Row w A' (f64s l')) (hl : l.length = n) (hl' : l'.length = n') (hnn : n' ≤ n) (hn : n < 1048576) :
    Calls Try.prog 28 #[.float .f64 a, .slice A n c, .slice A' n' c'] w (RetL (AxQ a l l') n' w) := by
  have HA := Lib.hid hA
  have HA' := Lib.hid hA'
  have Hl := Lib.hid hl
  have Hl' := Lib.hid hl'
  clear hA hA' hl hl'
  go_enter Try.func28, Try.ntmps28
  go_wp2_with fail
  go_loopw [7, 8] (fun out i wr => ∃ (q : Nat) (L : List Nat), q ≤ n' ∧ i = .int .i64 q ∧ Hid (L.length = q ∧ ∀ j, j < q → AxQ a l l' j (L.getD j 0)) ∧ wr.ownsRow w.heap.size 25 1 out q (f64s L) ∧ Below w.heap.size w wr) (fun _ i _ => n' - (intOf i).toNat)
  case atStart => exact ⟨0, [], Nat.zero_le _, rfl, Lib.hid ⟨rfl, fun j h => by omega⟩, World.ownsRow_nil _ _ _ _, Below.refl _ _⟩
  case round =>
    obtain ⟨q, L, hq, rfl, HL, hown, hbl⟩ := hrel
    have HBl := Lib.hid hbl
    have HOw0 := Lib.hid hown
    clear hown hbl
    by_cases hlt : q < n'
    · have hql : q < l.length := by rw [Hl.out]; omega
      have hql' : q < l'.length := by rw [Hl'.out]; omega
      obtain ⟨b1, y1, rfl, _, hcx⟩ := HA.out.at_ (f64s_get l q hql)
      obtain ⟨b2, y2, rfl, _, hcy⟩ := HA'.out.at_ (f64s_get l' q hql')
      have HCx := Lib.hid (cell_below hcx HBl.out)
      have HCy := Lib.hid (cell_below hcy HBl.out)
      have HQ := Lib.hid (fun p r (hp : Comes .mul a l[q] p) (hr : Comes .add l'[q] p r) => (show AxQ a l l' q r from ⟨p, by rw [getD_of_lt hql]; exact hp, by rw [getD_of_lt hql']; exact hr⟩))
      have HOw := Lib.hid (show wr.ownsRow w.heap.size 25 1 u7 (f64s L).length (f64s L) from by
        have e : (f64s L).length = q := by simp [f64s, HL.out.1]
        rw [e]; exact HOw0.out)
      have HLe := Lib.hid (show (f64s L).length + 1 ≤ 1048576 by simp [f64s, HL.out.1]; omega)
      have HLf := Lib.hid (show (f64s L).length + 1 = q + 1 by simp [f64s, HL.out.1])
      obtain ⟨x, hx⟩ : ∃ x, l[q] = x := ⟨_, rfl⟩
      obtain ⟨y, hy⟩ : ∃ y, l'[q] = y := ⟨_, rfl⟩
      rw [hx] at HCx HQ
      rw [hy] at HCy HQ
      have bq1 : q < n := by omega
      have bq2 : q < n' := hlt
      have hqc : (q : Int) < (n' : Int) := by omega
      have hq1 : q + 1 ≤ 1048576 := by omega
      clear hx hy hcx hcy hql hql'
      go_wp2_with fail
      refine wp_region_inv [15, 16, 17, 18, 19, 20, 21, 22, 23, 24, 25, 26, 27, 28, 7] (fun d s W => (d 0 = true → s 15 = u7) ∧ (d 1 = true → s 16 = .slice (some ⟨b2, y2, none⟩) n' c') ∧ (d 2 = true → s 17 = .int .i64 (q : Int)) ∧ (d 3 = true → s 18 = .pointer (some ⟨b2, y2 + q, none⟩)) ∧ (d 4 = true → s 19 = .float .f64 y) ∧ (d 5 = true → s 20 = .float .f64 a) ∧ (d 6 = true → s 21 = .slice (some ⟨b1, y1, none⟩) n c) ∧ (d 7 = true → s 22 = .int .i64 (q : Int)) ∧ (d 8 = true → s 23 = .pointer (some ⟨b1, y1 + q, none⟩)) ∧ (d 9 = true → s 24 = .float .f64 x) ∧ (d 10 = true → ∃ p, s 25 = .float .f64 p ∧ Comes .mul a x p) ∧ (d 11 = true → ∃ r, s 26 = .float .f64 r ∧ AxQ a l l' q r) ∧ (d 14 = true → s 7 = s 28) ∧ (d 14 = true → d 13 = true) ∧ (d 14 = true → d 0 = true) ∧ (d 14 = false → s 7 = u7) ∧ (d 3 = true → d 1 = true ∧ d 2 = true) ∧ (d 4 = true → d 1 = true ∧ d 2 = true ∧ d 3 = true) ∧ (d 8 = true → d 6 = true ∧ d 7 = true) ∧ (d 9 = true → d 6 = true ∧ d 7 = true ∧ d 8 = true) ∧ (d 10 = true → d 5 = true ∧ d 6 = true ∧ d 7 = true ∧ d 8 = true ∧ d 9 = true) ∧ (d 11 = true → d 1 = true ∧ d 2 = true ∧ d 3 = true ∧ d 4 = true ∧ d 5 = true ∧ d 6 = true ∧ d 7 = true ∧ d 8 = true ∧ d 9 = true ∧ d 10 = true) ∧ (d 12 = true → d 1 = true ∧ d 2 = true ∧ d 3 = true ∧ d 4 = true ∧ d 5 = true ∧ d 6 = true ∧ d 7 = true ∧ d 8 = true ∧ d 9 = true ∧ d 10 = true ∧ d 11 = true) ∧ (d 13 = true → d 0 = true ∧ d 1 = true ∧ d 2 = true ∧ d 3 = true ∧ d 4 = true ∧ d 5 = true ∧ d 6 = true ∧ d 7 = true ∧ d 8 = true ∧ d 9 = true ∧ d 10 = true ∧ d 11 = true ∧ d 12 = true) ∧ ApS w.heap.size (f64s L) (fun r => AxQ a l l' q r) w wr (d 12) (d 13) (s 27) (s 28) W)
        rfl (by kernel_rfl) ?_ ?_ ?_
      · exact ⟨by simp, by simp, by simp, by simp, by simp, by simp, by simp, by simp, by simp, by simp, by simp, by simp, by simp, by simp, by simp, fun _ => by simp, by simp, by simp, by simp, by simp, by simp, by simp, by simp, by simp, ⟨fun _ => ⟨(Below.refl _ _).drew, fun e => by simp at e⟩, fun e => by simp at e⟩⟩
      · refine ⟨?_, ?_, ?_, ?_, ?_, ?_, ?_, ?_, ?_, ?_, ?_, ?_, ?_, ?_, ?_, trivial⟩
        all_goals
          intro d s W hJ hfr hd hdep
          simp only [List.mem_cons, forall_eq_or_imp, List.not_mem_nil, false_implies, implies_true, and_true, Region.binds] at hdep
          have f0 := hfr 0 (by decide)
          have f1 := hfr 1 (by decide)
          have f2 := hfr 2 (by decide)
          have f8 := hfr 8 (by decide)
          simp at f0 f1 f2 f8 hdep
          obtain ⟨h0, h1, h2, h3, h4, h5, h6, h7, h8, h9, h10, h11, h14, x0, x1, x2, x3, x4, x5, x6, x7, x8, x9, x10, hT⟩ := hJ
        · have hl : d 13 = false := by
            cases h : d 13
            · rfl
            · have := x10 h; simp [hd] at this
          have hl' := hl
          rw [hl] at hT
          unfold OpSteps
          have e7 : d 14 = false := by
            cases h : d 14
            · rfl
            · have := x1 h; simp [hd] at this
          have f7 := x2 e7
          simp [go_sem, evS, f7]
          exact ⟨fun _ => by simp [sput], fun h => by simpa [sput] using h1 (by simpa [did] using h), fun h => by simpa [sput] using h2 (by simpa [did] using h), fun h => by simpa [sput] using h3 (by simpa [did] using h), fun h => by simpa [sput] using h4 (by simpa [did] using h), fun h => by simpa [sput] using h5 (by simpa [did] using h), fun h => by simpa [sput] using h6 (by simpa [did] using h), fun h => by simpa [sput] using h7 (by simpa [did] using h), fun h => by simpa [sput] using h8 (by simpa [did] using h), fun h => by simpa [sput] using h9 (by simpa [did] using h), fun h => by simpa [sput] using h10 (by simpa [did] using h), fun h => by simpa [sput] using h11 (by simpa [did] using h), fun h => by simpa [sput] using h14 (by simpa [did] using h), by simpa [sput, did] using x0, fun h => by have := x1 (by simpa [did] using h); simp [did, this], fun h => by simpa [sput] using x2 (by simpa [did] using h), fun h => by have := x3 (by simpa [did] using h); simp [did, this], fun h => by have := x4 (by simpa [did] using h); simp [did, this], fun h => by have := x5 (by simpa [did] using h); simp [did, this], fun h => by have := x6 (by simpa [did] using h); simp [did, this], fun h => by have := x7 (by simpa [did] using h); simp [did, this], fun h => by have := x8 (by simpa [did] using h); simp [did, this], fun h => by have := x9 (by simpa [did] using h); simp [did, this], fun h => by have := x10 (by simpa [did] using h); simp [did, this], by simpa [did, sput, hl] using hT⟩
        · have hl : d 13 = false := by
            cases h : d 13
            · rfl
            · have := x10 h; simp [hd] at this
          have hl' := hl
          rw [hl] at hT
          unfold OpSteps
          simp [go_sem, evS, f2]
          exact ⟨fun h => by simpa [sput] using h0 (by simpa [did] using h), fun _ => by simp [sput], fun h => by simpa [sput] using h2 (by simpa [did] using h), fun h => by simpa [sput] using h3 (by simpa [did] using h), fun h => by simpa [sput] using h4 (by simpa [did] using h), fun h => by simpa [sput] using h5 (by simpa [did] using h), fun h => by simpa [sput] using h6 (by simpa [did] using h), fun h => by simpa [sput] using h7 (by simpa [did] using h), fun h => by simpa [sput] using h8 (by simpa [did] using h), fun h => by simpa [sput] using h9 (by simpa [did] using h), fun h => by simpa [sput] using h10 (by simpa [did] using h), fun h => by simpa [sput] using h11 (by simpa [did] using h), fun h => by simpa [sput] using h14 (by simpa [did] using h), by simpa [sput, did] using x0, fun h => by have := x1 (by simpa [did] using h); simp [did, this], fun h => by simpa [sput] using x2 (by simpa [did] using h), fun h => by have := x3 (by simpa [did] using h); simp [did, this], fun h => by have := x4 (by simpa [did] using h); simp [did, this], fun h => by have := x5 (by simpa [did] using h); simp [did, this], fun h => by have := x6 (by simpa [did] using h); simp [did, this], fun h => by have := x7 (by simpa [did] using h); simp [did, this], fun h => by have := x8 (by simpa [did] using h); simp [did, this], fun h => by have := x9 (by simpa [did] using h); simp [did, this], fun h => by have := x10 (by simpa [did] using h); simp [did, this], by simpa [did, sput, hl] using hT⟩
        · have hl : d 13 = false := by
            cases h : d 13
            · rfl
            · have := x10 h; simp [hd] at this
          have hl' := hl
          rw [hl] at hT
          unfold OpSteps
          simp [go_sem, evS, f8]
          exact ⟨fun h => by simpa [sput] using h0 (by simpa [did] using h), fun h => by simpa [sput] using h1 (by simpa [did] using h), fun _ => by simp [sput], fun h => by simpa [sput] using h3 (by simpa [did] using h), fun h => by simpa [sput] using h4 (by simpa [did] using h), fun h => by simpa [sput] using h5 (by simpa [did] using h), fun h => by simpa [sput] using h6 (by simpa [did] using h), fun h => by simpa [sput] using h7 (by simpa [did] using h), fun h => by simpa [sput] using h8 (by simpa [did] using h), fun h => by simpa [sput] using h9 (by simpa [did] using h), fun h => by simpa [sput] using h10 (by simpa [did] using h), fun h => by simpa [sput] using h11 (by simpa [did] using h), fun h => by simpa [sput] using h14 (by simpa [did] using h), by simpa [sput, did] using x0, fun h => by have := x1 (by simpa [did] using h); simp [did, this], fun h => by simpa [sput] using x2 (by simpa [did] using h), fun h => by have := x3 (by simpa [did] using h); simp [did, this], fun h => by have := x4 (by simpa [did] using h); simp [did, this], fun h => by have := x5 (by simpa [did] using h); simp [did, this], fun h => by have := x6 (by simpa [did] using h); simp [did, this], fun h => by have := x7 (by simpa [did] using h); simp [did, this], fun h => by have := x8 (by simpa [did] using h); simp [did, this], fun h => by have := x9 (by simpa [did] using h); simp [did, this], fun h => by have := x10 (by simpa [did] using h); simp [did, this], by simpa [did, sput, hl] using hT⟩
        · have hl : d 13 = false := by
            cases h : d 13
            · rfl
            · have := x10 h; simp [hd] at this
          have hl' := hl
          rw [hl] at hT
          have g1 := h1 (by simp [hdep])
          have g2 := h2 (by simp [hdep])
          unfold OpSteps
          simp [go_sem, evS, g1, g2, bq1, bq2]
          exact ⟨fun h => by simpa [sput] using h0 (by simpa [did] using h), fun h => by simpa [sput] using h1 (by simpa [did] using h), fun h => by simpa [sput] using h2 (by simpa [did] using h), fun _ => by simp [sput], fun h => by simpa [sput] using h4 (by simpa [did] using h), fun h => by simpa [sput] using h5 (by simpa [did] using h), fun h => by simpa [sput] using h6 (by simpa [did] using h), fun h => by simpa [sput] using h7 (by simpa [did] using h), fun h => by simpa [sput] using h8 (by simpa [did] using h), fun h => by simpa [sput] using h9 (by simpa [did] using h), fun h => by simpa [sput] using h10 (by simpa [did] using h), fun h => by simpa [sput] using h11 (by simpa [did] using h), fun h => by simpa [sput] using h14 (by simpa [did] using h), by simpa [sput, did] using x0, fun h => by have := x1 (by simpa [did] using h); simp [did, this], fun h => by simpa [sput] using x2 (by simpa [did] using h), fun _ => by simp [did, hdep], fun h => by have := x4 (by simpa [did] using h); simp [did, this], fun h => by have := x5 (by simpa [did] using h); simp [did, this], fun h => by have := x6 (by simpa [did] using h); simp [did, this], fun h => by have := x7 (by simpa [did] using h); simp [did, this], fun h => by have := x8 (by simpa [did] using h); simp [did, this], fun h => by have := x9 (by simpa [did] using h); simp [did, this], fun h => by have := x10 (by simpa [did] using h); simp [did, this], by simpa [did, sput, hl] using hT⟩
        · have hl : d 13 = false := by
            cases h : d 13
            · rfl
            · have := x10 h; simp [hd] at this
          have hl' := hl
          rw [hl] at hT
          have g3 := h3 (by simp [hdep])
          unfold OpSteps
          have pc := cell_below HCy.out (hT.1 rfl).1
          simp [go_sem, evS, g3, pc]
          exact ⟨fun h => by simpa [sput] using h0 (by simpa [did] using h), fun h => by simpa [sput] using h1 (by simpa [did] using h), fun h => by simpa [sput] using h2 (by simpa [did] using h), fun h => by simpa [sput] using h3 (by simpa [did] using h), fun _ => by simp [sput], fun h => by simpa [sput] using h5 (by simpa [did] using h), fun h => by simpa [sput] using h6 (by simpa [did] using h), fun h => by simpa [sput] using h7 (by simpa [did] using h), fun h => by simpa [sput] using h8 (by simpa [did] using h), fun h => by simpa [sput] using h9 (by simpa [did] using h), fun h => by simpa [sput] using h10 (by simpa [did] using h), fun h => by simpa [sput] using h11 (by simpa [did] using h), fun h => by simpa [sput] using h14 (by simpa [did] using h), by simpa [sput, did] using x0, fun h => by have := x1 (by simpa [did] using h); simp [did, this], fun h => by simpa [sput] using x2 (by simpa [did] using h), fun h => by have := x3 (by simpa [did] using h); simp [did, this], fun _ => by have y3 := x3 (by simp [hdep]); simp [did, hdep, y3], fun h => by have := x5 (by simpa [did] using h); simp [did, this], fun h => by have := x6 (by simpa [did] using h); simp [did, this], fun h => by have := x7 (by simpa [did] using h); simp [did, this], fun h => by have := x8 (by simpa [did] using h); simp [did, this], fun h => by have := x9 (by simpa [did] using h); simp [did, this], fun h => by have := x10 (by simpa [did] using h); simp [did, this], by simpa [did, sput, hl] using hT⟩
        · have hl : d 13 = false := by
            cases h : d 13
            · rfl
            · have := x10 h; simp [hd] at this
          have hl' := hl
          rw [hl] at hT
          unfold OpSteps
          simp [go_sem, evS, f0]
          exact ⟨fun h => by simpa [sput] using h0 (by simpa [did] using h), fun h => by simpa [sput] using h1 (by simpa [did] using h), fun h => by simpa [sput] using h2 (by simpa [did] using h), fun h => by simpa [sput] using h3 (by simpa [did] using h), fun h => by simpa [sput] using h4 (by simpa [did] using h), fun _ => by simp [sput], fun h => by simpa [sput] using h6 (by simpa [did] using h), fun h => by simpa [sput] using h7 (by simpa [did] using h), fun h => by simpa [sput] using h8 (by simpa [did] using h), fun h => by simpa [sput] using h9 (by simpa [did] using h), fun h => by simpa [sput] using h10 (by simpa [did] using h), fun h => by simpa [sput] using h11 (by simpa [did] using h), fun h => by simpa [sput] using h14 (by simpa [did] using h), by simpa [sput, did] using x0, fun h => by have := x1 (by simpa [did] using h); simp [did, this], fun h => by simpa [sput] using x2 (by simpa [did] using h), fun h => by have := x3 (by simpa [did] using h); simp [did, this], fun h => by have := x4 (by simpa [did] using h); simp [did, this], fun h => by have := x5 (by simpa [did] using h); simp [did, this], fun h => by have := x6 (by simpa [did] using h); simp [did, this], fun h => by have := x7 (by simpa [did] using h); simp [did, this], fun h => by have := x8 (by simpa [did] using h); simp [did, this], fun h => by have := x9 (by simpa [did] using h); simp [did, this], fun h => by have := x10 (by simpa [did] using h); simp [did, this], by simpa [did, sput, hl] using hT⟩
        · have hl : d 13 = false := by
            cases h : d 13
            · rfl
            · have := x10 h; simp [hd] at this
          have hl' := hl
          rw [hl] at hT
          unfold OpSteps
          simp [go_sem, evS, f1]
          exact ⟨fun h => by simpa [sput] using h0 (by simpa [did] using h), fun h => by simpa [sput] using h1 (by simpa [did] using h), fun h => by simpa [sput] using h2 (by simpa [did] using h), fun h => by simpa [sput] using h3 (by simpa [did] using h), fun h => by simpa [sput] using h4 (by simpa [did] using h), fun h => by simpa [sput] using h5 (by simpa [did] using h), fun _ => by simp [sput], fun h => by simpa [sput] using h7 (by simpa [did] using h), fun h => by simpa [sput] using h8 (by simpa [did] using h), fun h => by simpa [sput] using h9 (by simpa [did] using h), fun h => by simpa [sput] using h10 (by simpa [did] using h), fun h => by simpa [sput] using h11 (by simpa [did] using h), fun h => by simpa [sput] using h14 (by simpa [did] using h), by simpa [sput, did] using x0, fun h => by have := x1 (by simpa [did] using h); simp [did, this], fun h => by simpa [sput] using x2 (by simpa [did] using h), fun h => by have := x3 (by simpa [did] using h); simp [did, this], fun h => by have := x4 (by simpa [did] using h); simp [did, this], fun h => by have := x5 (by simpa [did] using h); simp [did, this], fun h => by have := x6 (by simpa [did] using h); simp [did, this], fun h => by have := x7 (by simpa [did] using h); simp [did, this], fun h => by have := x8 (by simpa [did] using h); simp [did, this], fun h => by have := x9 (by simpa [did] using h); simp [did, this], fun h => by have := x10 (by simpa [did] using h); simp [did, this], by simpa [did, sput, hl] using hT⟩
        · have hl : d 13 = false := by
            cases h : d 13
            · rfl
            · have := x10 h; simp [hd] at this
          have hl' := hl
          rw [hl] at hT
          unfold OpSteps
          simp [go_sem, evS, f8]
          exact ⟨fun h => by simpa [sput] using h0 (by simpa [did] using h), fun h => by simpa [sput] using h1 (by simpa [did] using h), fun h => by simpa [sput] using h2 (by simpa [did] using h), fun h => by simpa [sput] using h3 (by simpa [did] using h), fun h => by simpa [sput] using h4 (by simpa [did] using h), fun h => by simpa [sput] using h5 (by simpa [did] using h), fun h => by simpa [sput] using h6 (by simpa [did] using h), fun _ => by simp [sput], fun h => by simpa [sput] using h8 (by simpa [did] using h), fun h => by simpa [sput] using h9 (by simpa [did] using h), fun h => by simpa [sput] using h10 (by simpa [did] using h), fun h => by simpa [sput] using h11 (by simpa [did] using h), fun h => by simpa [sput] using h14 (by simpa [did] using h), by simpa [sput, did] using x0, fun h => by have := x1 (by simpa [did] using h); simp [did, this], fun h => by simpa [sput] using x2 (by simpa [did] using h), fun h => by have := x3 (by simpa [did] using h); simp [did, this], fun h => by have := x4 (by simpa [did] using h); simp [did, this], fun h => by have := x5 (by simpa [did] using h); simp [did, this], fun h => by have := x6 (by simpa [did] using h); simp [did, this], fun h => by have := x7 (by simpa [did] using h); simp [did, this], fun h => by have := x8 (by simpa [did] using h); simp [did, this], fun h => by have := x9 (by simpa [did] using h); simp [did, this], fun h => by have := x10 (by simpa [did] using h); simp [did, this], by simpa [did, sput, hl] using hT⟩
        · have hl : d 13 = false := by
            cases h : d 13
            · rfl
            · have := x10 h; simp [hd] at this
          have hl' := hl
          rw [hl] at hT
          have g6 := h6 (by simp [hdep])
          have g7 := h7 (by simp [hdep])
          unfold OpSteps
          simp [go_sem, evS, g6, g7, bq1, bq2]
          exact ⟨fun h => by simpa [sput] using h0 (by simpa [did] using h), fun h => by simpa [sput] using h1 (by simpa [did] using h), fun h => by simpa [sput] using h2 (by simpa [did] using h), fun h => by simpa [sput] using h3 (by simpa [did] using h), fun h => by simpa [sput] using h4 (by simpa [did] using h), fun h => by simpa [sput] using h5 (by simpa [did] using h), fun h => by simpa [sput] using h6 (by simpa [did] using h), fun h => by simpa [sput] using h7 (by simpa [did] using h), fun _ => by simp [sput], fun h => by simpa [sput] using h9 (by simpa [did] using h), fun h => by simpa [sput] using h10 (by simpa [did] using h), fun h => by simpa [sput] using h11 (by simpa [did] using h), fun h => by simpa [sput] using h14 (by simpa [did] using h), by simpa [sput, did] using x0, fun h => by have := x1 (by simpa [did] using h); simp [did, this], fun h => by simpa [sput] using x2 (by simpa [did] using h), fun h => by have := x3 (by simpa [did] using h); simp [did, this], fun h => by have := x4 (by simpa [did] using h); simp [did, this], fun _ => by simp [did, hdep], fun h => by have := x6 (by simpa [did] using h); simp [did, this], fun h => by have := x7 (by simpa [did] using h); simp [did, this], fun h => by have := x8 (by simpa [did] using h); simp [did, this], fun h => by have := x9 (by simpa [did] using h); simp [did, this], fun h => by have := x10 (by simpa [did] using h); simp [did, this], by simpa [did, sput, hl] using hT⟩
        · have hl : d 13 = false := by
            cases h : d 13
            · rfl
            · have := x10 h; simp [hd] at this
          have hl' := hl
          rw [hl] at hT
          have g8 := h8 (by simp [hdep])
          unfold OpSteps
          have pc := cell_below HCx.out (hT.1 rfl).1
          simp [go_sem, evS, g8, pc]
          exact ⟨fun h => by simpa [sput] using h0 (by simpa [did] using h), fun h => by simpa [sput] using h1 (by simpa [did] using h), fun h => by simpa [sput] using h2 (by simpa [did] using h), fun h => by simpa [sput] using h3 (by simpa [did] using h), fun h => by simpa [sput] using h4 (by simpa [did] using h), fun h => by simpa [sput] using h5 (by simpa [did] using h), fun h => by simpa [sput] using h6 (by simpa [did] using h), fun h => by simpa [sput] using h7 (by simpa [did] using h), fun h => by simpa [sput] using h8 (by simpa [did] using h), fun _ => by simp [sput], fun h => by simpa [sput] using h10 (by simpa [did] using h), fun h => by simpa [sput] using h11 (by simpa [did] using h), fun h => by simpa [sput] using h14 (by simpa [did] using h), by simpa [sput, did] using x0, fun h => by have := x1 (by simpa [did] using h); simp [did, this], fun h => by simpa [sput] using x2 (by simpa [did] using h), fun h => by have := x3 (by simpa [did] using h); simp [did, this], fun h => by have := x4 (by simpa [did] using h); simp [did, this], fun h => by have := x5 (by simpa [did] using h); simp [did, this], fun _ => by have y8 := x5 (by simp [hdep]); simp [did, hdep, y8], fun h => by have := x7 (by simpa [did] using h); simp [did, this], fun h => by have := x8 (by simpa [did] using h); simp [did, this], fun h => by have := x9 (by simpa [did] using h); simp [did, this], fun h => by have := x10 (by simpa [did] using h); simp [did, this], by simpa [did, sput, hl] using hT⟩
        · have hl : d 13 = false := by
            cases h : d 13
            · rfl
            · have := x10 h; simp [hd] at this
          have hl' := hl
          rw [hl] at hT
          have g5 := h5 (by simp [hdep])
          have g9 := h9 (by simp [hdep])
          unfold OpSteps
          simp [go_sem, evS, g5, g9]
          refine (rtimes_any a x W).mono ?_
          rintro e W' ⟨p, rfl, hp, hb⟩
          refine ⟨_, rfl, ?_⟩
          exact ⟨fun h => by simpa [sput] using h0 (by simpa [did] using h), fun h => by simpa [sput] using h1 (by simpa [did] using h), fun h => by simpa [sput] using h2 (by simpa [did] using h), fun h => by simpa [sput] using h3 (by simpa [did] using h), fun h => by simpa [sput] using h4 (by simpa [did] using h), fun h => by simpa [sput] using h5 (by simpa [did] using h), fun h => by simpa [sput] using h6 (by simpa [did] using h), fun h => by simpa [sput] using h7 (by simpa [did] using h), fun h => by simpa [sput] using h8 (by simpa [did] using h), fun h => by simpa [sput] using h9 (by simpa [did] using h), fun _ => ⟨p, by simp [sput], hp⟩, fun h => by simpa [sput] using h11 (by simpa [did] using h), fun h => by simpa [sput] using h14 (by simpa [did] using h), by simpa [sput, did] using x0, fun h => by have := x1 (by simpa [did] using h); simp [did, this], fun h => by simpa [sput] using x2 (by simpa [did] using h), fun h => by have := x3 (by simpa [did] using h); simp [did, this], fun h => by have := x4 (by simpa [did] using h); simp [did, this], fun h => by have := x5 (by simpa [did] using h); simp [did, this], fun h => by have := x6 (by simpa [did] using h); simp [did, this], fun _ => by have y9 := x6 (by simp [hdep]); simp [did, hdep, y9], fun h => by have := x8 (by simpa [did] using h); simp [did, this], fun h => by have := x9 (by simpa [did] using h); simp [did, this], fun h => by have := x10 (by simpa [did] using h); simp [did, this], by simpa [did, sput, hl] using hT.nxt hb⟩
        · have hl : d 13 = false := by
            cases h : d 13
            · rfl
            · have := x10 h; simp [hd] at this
          have hl' := hl
          rw [hl] at hT
          have g4 := h4 (by simp [hdep])
          have g10 := h10 (by simp [hdep])
          unfold OpSteps
          obtain ⟨p, gp, hp⟩ := g10
          simp [go_sem, evS, g4, gp]
          refine (rplus_any y p W).mono ?_
          rintro e W' ⟨r, rfl, hr, hb⟩
          refine ⟨_, rfl, ?_⟩
          exact ⟨fun h => by simpa [sput] using h0 (by simpa [did] using h), fun h => by simpa [sput] using h1 (by simpa [did] using h), fun h => by simpa [sput] using h2 (by simpa [did] using h), fun h => by simpa [sput] using h3 (by simpa [did] using h), fun h => by simpa [sput] using h4 (by simpa [did] using h), fun h => by simpa [sput] using h5 (by simpa [did] using h), fun h => by simpa [sput] using h6 (by simpa [did] using h), fun h => by simpa [sput] using h7 (by simpa [did] using h), fun h => by simpa [sput] using h8 (by simpa [did] using h), fun h => by simpa [sput] using h9 (by simpa [did] using h), fun h => by simpa [sput] using h10 (by simpa [did] using h), fun _ => ⟨r, by simp [sput], HQ.out p r hp hr⟩, fun h => by simpa [sput] using h14 (by simpa [did] using h), by simpa [sput, did] using x0, fun h => by have := x1 (by simpa [did] using h); simp [did, this], fun h => by simpa [sput] using x2 (by simpa [did] using h), fun h => by have := x3 (by simpa [did] using h); simp [did, this], fun h => by have := x4 (by simpa [did] using h); simp [did, this], fun h => by have := x5 (by simpa [did] using h); simp [did, this], fun h => by have := x6 (by simpa [did] using h); simp [did, this], fun h => by have := x7 (by simpa [did] using h); simp [did, this], fun _ => by have y4 := x4 (by simp [hdep]); have y10 := x7 (by simp [hdep]); simp [did, hdep, y4, y10], fun h => by have := x9 (by simpa [did] using h); simp [did, this], fun h => by have := x10 (by simpa [did] using h); simp [did, this], by simpa [did, sput, hl] using hT.nxt hb⟩
        · have hl : d 13 = false := by
            cases h : d 13
            · rfl
            · have := x10 h; simp [hd] at this
          have hl' := hl
          rw [hl] at hT
          have g11 := h11 (by simp [hdep])
          unfold OpSteps
          obtain ⟨r, gr, hr⟩ := g11
          simp [go_sem, evS, gr]
          exact ⟨fun h => by simpa [sput] using h0 (by simpa [did] using h), fun h => by simpa [sput] using h1 (by simpa [did] using h), fun h => by simpa [sput] using h2 (by simpa [did] using h), fun h => by simpa [sput] using h3 (by simpa [did] using h), fun h => by simpa [sput] using h4 (by simpa [did] using h), fun h => by simpa [sput] using h5 (by simpa [did] using h), fun h => by simpa [sput] using h6 (by simpa [did] using h), fun h => by simpa [sput] using h7 (by simpa [did] using h), fun h => by simpa [sput] using h8 (by simpa [did] using h), fun h => by simpa [sput] using h9 (by simpa [did] using h), fun h => by simpa [sput] using h10 (by simpa [did] using h), fun h => by simpa [sput] using h11 (by simpa [did] using h), fun h => by simpa [sput] using h14 (by simpa [did] using h), by simpa [sput, did] using x0, fun h => by have := x1 (by simpa [did] using h); simp [did, this], fun h => by simpa [sput] using x2 (by simpa [did] using h), fun h => by have := x3 (by simpa [did] using h); simp [did, this], fun h => by have := x4 (by simpa [did] using h); simp [did, this], fun h => by have := x5 (by simpa [did] using h); simp [did, this], fun h => by have := x6 (by simpa [did] using h); simp [did, this], fun h => by have := x7 (by simpa [did] using h); simp [did, this], fun h => by have := x8 (by simpa [did] using h); simp [did, this], fun _ => by have y11 := x8 (by simp [hdep]); simp [did, hdep, y11], fun h => by have := x10 (by simpa [did] using h); simp [did, this], by rw [hd] at hT; simpa [did, sput, hl] using hT.made hr⟩
        · have g0 := h0 (by simp [hdep])
          have hd12 : d 12 = true := by simp [hdep]
          rw [hd12, hd] at hT
          obtain ⟨g, v', w', ga, gb, gc⟩ := hT.app HOw.out HBl.out (Nat.le_refl _) HBl.out.size HLe.out
          refine opSteps_append _ _ _ rfl (by simp only [evS]; exact g0) (by simp only [evS]; exact ga) gb ?_
          exact ⟨fun h => by simpa [sput] using h0 (by simpa [did] using h), fun h => by simpa [sput] using h1 (by simpa [did] using h), fun h => by simpa [sput] using h2 (by simpa [did] using h), fun h => by simpa [sput] using h3 (by simpa [did] using h), fun h => by simpa [sput] using h4 (by simpa [did] using h), fun h => by simpa [sput] using h5 (by simpa [did] using h), fun h => by simpa [sput] using h6 (by simpa [did] using h), fun h => by simpa [sput] using h7 (by simpa [did] using h), fun h => by simpa [sput] using h8 (by simpa [did] using h), fun h => by simpa [sput] using h9 (by simpa [did] using h), fun h => by simpa [sput] using h10 (by simpa [did] using h), fun h => by simpa [sput] using h11 (by simpa [did] using h), fun h => by have := x0 (by simpa [did] using h); simp [hd] at this, fun _ => by simp [did], fun h => by have := x1 (by simpa [did] using h); simp [did, this], fun h => by simpa [sput] using x2 (by simpa [did] using h), fun h => by have := x3 (by simpa [did] using h); simp [did, this], fun h => by have := x4 (by simpa [did] using h); simp [did, this], fun h => by have := x5 (by simpa [did] using h); simp [did, this], fun h => by have := x6 (by simpa [did] using h); simp [did, this], fun h => by have := x7 (by simpa [did] using h); simp [did, this], fun h => by have := x8 (by simpa [did] using h); simp [did, this], fun h => by have := x9 (by simpa [did] using h); simp [did, this], fun _ => by have y12 := x9 (by simp [hdep]); simp [did, hdep, y12], by simpa [did, sput, hd12, ga] using gc⟩
        · unfold OpSteps
          simp [go_sem, evS]
          exact ⟨fun h => by simpa [sput] using h0 (by simpa [did] using h), fun h => by simpa [sput] using h1 (by simpa [did] using h), fun h => by simpa [sput] using h2 (by simpa [did] using h), fun h => by simpa [sput] using h3 (by simpa [did] using h), fun h => by simpa [sput] using h4 (by simpa [did] using h), fun h => by simpa [sput] using h5 (by simpa [did] using h), fun h => by simpa [sput] using h6 (by simpa [did] using h), fun h => by simpa [sput] using h7 (by simpa [did] using h), fun h => by simpa [sput] using h8 (by simpa [did] using h), fun h => by simpa [sput] using h9 (by simpa [did] using h), fun h => by simpa [sput] using h10 (by simpa [did] using h), fun h => by simpa [sput] using h11 (by simpa [did] using h), fun _ => by simp [sput], fun _ => by simp [did, hdep], fun _ => by first | simp [did, hdep] | (have := x10 (by simp [hdep]); simp [did, this]), fun h => by simp [did] at h, fun h => by have := x3 (by simpa [did] using h); simp [did, this], fun h => by have := x4 (by simpa [did] using h); simp [did, this], fun h => by have := x5 (by simpa [did] using h); simp [did, this], fun h => by have := x6 (by simpa [did] using h); simp [did, this], fun h => by have := x7 (by simpa [did] using h); simp [did, this], fun h => by have := x8 (by simpa [did] using h); simp [did, this], fun h => by have := x9 (by simpa [did] using h); simp [did, this], fun h => by have := x10 (by simpa [did] using h); simp [did, this], by simpa [did, sput] using hT⟩
      intro d s W hJ hd
      obtain ⟨h0, h1, h2, h3, h4, h5, h6, h7, h8, h9, h10, h11, h14, x0, x1, x2, x3, x4, x5, x6, x7, x8, x9, x10, hT⟩ := hJ
      have hs7 : s 7 = s 28 := h14 (hd 14 (by decide))
      have hA := hT.2 (hd 13 (by decide))
      clear h0 h1 h2 h3 h4 h5 h6 h7 h8 h9 h10 h11 h14 x0 x1 x2 x3 x4 x5 x6 x7 x8 x9 x10 hT hd
      obtain ⟨r, hr, hown, hbl⟩ := hA
      have HR := Lib.hid hr
      have HOw2 := Lib.hid hown
      have HBl2 := Lib.hid hbl
      clear hr hown hbl
      simp [setAll, hs7]
      clear hs7
      generalize s 15 = s15
      generalize s 16 = s16
      generalize s 17 = s17
      generalize s 18 = s18
      generalize s 19 = s19
      generalize s 20 = s20
      generalize s 21 = s21
      generalize s 22 = s22
      generalize s 23 = s23
      generalize s 24 = s24
      generalize s 25 = s25
      generalize s 26 = s26
      generalize s 27 = s27
      generalize s 28 = s28 at *
      go_wp2_with fail
      go_roundw
      case rel => exact ⟨q + 1, L ++ [r], by omega, by go_num, Lib.hid ⟨by simp [HL.out.1], AxQ_all HL.out.1 HL.out.2 HR.out⟩, by rw [← HLf.out]; simpa [f64s] using HOw2.out, HBl2.out⟩
      case measure => simp [intOf]; omega
    · obtain rfl : q = n' := by omega
      have hqc : ¬ (q : Int) < (q : Int) := by omega
      obtain ⟨B, d, rfl, hrow⟩ := own_row HOw0.out HL.out.1.symm
      have HRow := Lib.hid hrow
      clear hrow
      go_wp2_with fail
      go_ret
      exact ⟨B, d, L, rfl, HL.out.1, HL.out.2, HRow.out, HBl.out⟩
end Go.Proofs.Ytjjneiidggcfdaa
set_option linter.unusedVariables false
set_option linter.unusedSimpArgs false
namespace Go.Proofs.Ytjjneiidggcfdaa
open Go.RowKit
attribute [local go_sem ↓] Go.wp_at_zero Go.wp_at_succ

def ex34 : List Nat := [4613937818241073152, 4616189618054758400]
def ex11 : List Nat := [4607182418800017408, 4607182418800017408]
def ex56 : List Nat := [4617315517961601024, 4618441417868443648]
theorem Comes.det {op : BinOp} {x y r z : Nat} (h : Comes op x y r) (e : floatBits op .f64 x y = some z) : r = z := by
  rcases h.2 with h | ⟨h, _⟩
  · rw [e] at h; injection h with h; exact h.symm
  · rw [e] at h; cases h
theorem ex_mul1 : floatBits .mul .f64 4611686018427387904 4607182418800017408 = some 4611686018427387904 := by decide +kernel
theorem ex_add5 : floatBits .add .f64 4613937818241073152 4611686018427387904 = some 4617315517961601024 := by decide +kernel
theorem ex_add6 : floatBits .add .f64 4616189618054758400 4611686018427387904 = some 4618441417868443648 := by decide +kernel
theorem ex56_wds : Wds ex56 := by intro b hb; simp [ex56] at hb; omega
theorem ex_axpy {m : List Nat} (hl : m.length = 2) (h : ∀ q, q < 2 → AxR 4611686018427387904 ex34 0 1 ex11 0 1 q (m.getD q 0)) : m = ex56 := by
  obtain ⟨p0, h0, k0⟩ := h 0 (by omega)
  obtain ⟨p1, h1, k1⟩ := h 1 (by omega)
  have e0 := h0.det ex_mul1
  have e1 := h1.det ex_mul1
  subst e0 e1
  have f0 := k0.det ex_add5
  have f1 := k1.det ex_add6
  match m, hl with
  | [a, b], _ =>
    simp [List.getD] at f0 f1
    subst f0 f1
    rfl
theorem ex_pair (g : Nat) : pairI (decide (g = g + 1)) 2 0 2 1 2 0 2 1 = 0 := by
  have : decide (g = g + 1) = false := by simp
  rw [this]; decide
set_option maxRecDepth 100000 in
set_option maxHeartbeats 1000000 in
theorem awake6_any (w : World) : Calls Try.prog 21 #[] w fun e w' => e = .returned (.bool true) ∧ Below w.heap.size w w' := by
  have HSc := Lib.hid (fun W => show Calls Try.prog 30 #[.float .f64 4607182418800017408, .agg #[.slice none 0 0, .int .i64 0, .int .i64 0, .int .i64 0]] W fun e w' => e = .returned (.int .i64 1) ∧ Below W.heap.size W w' from
    axscal_err 4607182418800017408 none 0 0 0 0 0 W (by omega) (by unfold I64; omega) (by unfold I64; omega) (by unfold I64; omega) (by decide))
  have HAx := Lib.hid (fun (g : Nat) W (hO : Own W g ex34) (hO' : Own W (g + 1) ex11) => show Calls Try.prog 24 #[.float .f64 4611686018427387904, .agg #[.slice (some ⟨g + 1, 0, none⟩) 2 2, .int .i64 0, .int .i64 2, .int .i64 1], .agg #[.slice (some ⟨g, 0, none⟩) 2 2, .int .i64 0, .int .i64 2, .int .i64 1]] W fun e w' => e = .returned (.int .i64 0) ∧ Own w' g ex56 ∧ Chg [g] W w' from by
    refine (axpy_ok 4611686018427387904 g (g + 1) 2 2 ex34 ex11 2 2 0 2 1 0 1 W hO hO' rfl rfl (by omega) (by omega) (by omega) (by omega) (by omega) (by unfold I64; omega) (by unfold I64; omega) (by unfold I64; omega) (by unfold I64; omega) (by unfold I64; omega) (ex_pair g) (fun e => by omega)).mono ?_
    rintro e w' ⟨rfl, m, h1, h2, h3, h4⟩
    rw [wrt_whole ex34 m 2 rfl h1, ex_axpy h1 h2] at h3
    exact ⟨rfl, h3, h4⟩)
  have HAl := Lib.hid (fun (A B : Option Addr) (W : World) (h : Row W A (f64s ex56)) (h' : Row W B (f64s ex56)) => show Calls Try.prog 26 #[.slice A 2 2, .slice B 2 2] W fun e w' => e = .returned (.bool true) ∧ Below W.heap.size W w' from
    rall_any A B 2 2 ex56 ex56 W ex56_wds ex56_wds h h' (by decide) (Alike.refl _))
  have HB0 := Lib.hid ((Below.refl w.heap.size w))
  go_enter Try.func21, Try.ntmps21
  go_wp2_with fail
  refine (HSc.out _).mono ?_
  rintro e w1 ⟨rfl, hb⟩
  have HB1 := Lib.hid hb
  clear hb
  go_wp2_with fail
  have HO := Lib.hid (own_blk ((Blk.new w1 25 (f64s ex34).toArray).alloc (.cells (f64s ex11).toArray 25)))
  have HO' := Lib.hid (own_blk (Blk.new_ (w1.alloc (.cells (f64s ex34).toArray 25)) 25 (f64s ex11).toArray (w1.heap.size + 1) (by simp)))
  have HB2 := Lib.hid (below_al (below_al HB1.out (o := (.cells (f64s ex34).toArray 25))) (o := (.cells (f64s ex11).toArray 25)))
  refine (HAx.out _ _ HO.out HO'.out).mono ?_
  rintro e w2 ⟨rfl, ho, hc⟩
  have HO2 := Lib.hid ho
  have HB3 := Lib.hid (hc.below HB2.out HB2.out.size (by intro g hg; simp at hg; subst hg; exact HB1.out.size))
  clear ho hc
  go_wp2_with fail
  have HR1 := Lib.hid (HO2.out.nxt (below_one (o := (.cells (f64s ex56).toArray 25)))).row
  have HR2 := Lib.hid (own_blk (Blk.new w2 25 (f64s ex56).toArray)).row
  have HB4 := Lib.hid (below_al HB3.out (o := (.cells (f64s ex56).toArray 25)))
  refine (HAl.out _ _ _ HR1.out HR2.out).mono ?_
  rintro e w3 ⟨rfl, hb⟩
  have HB5 := Lib.hid (below_nx HB4.out hb)
  clear hb
  go_wp2_with fail
  go_ret
  exact ⟨rfl, HB5.out⟩
end Go.Proofs.Ytjjneiidggcfdaa
set_option linter.unusedVariables false
namespace Go.Proofs.Ytjjneiidggcfdaa
open Go.RowKit
attribute [local go_sem ↓] Go.wp_at_zero Go.wp_at_succ

/-- The first q columns have changed rows i and k. -/
def Half (T : List Nat) (i k R C q : Nat) (T' : List Nat) : Prop := T'.length = T.length ∧ ∀ a, a < R → ∀ b, b < C → T'.getD (a * C + b) 0 = if b < q then T.getD (sw i k a * C + b) 0 else T.getD (a * C + b) 0
theorem Half.zero (T : List Nat) (i k R C : Nat) : Half T i k R C 0 T := ⟨rfl, fun a _ b _ => by simp⟩
end Go.Proofs.Ytjjneiidggcfdaa
set_option linter.unusedVariables false
set_option linter.unusedSimpArgs false
namespace Go.Proofs.Ytjjneiidggcfdaa
open Go.RowKit
attribute [local go_sem ↓] Go.wp_at_zero Go.wp_at_succ

/-- The list has the table T at the matrix' first places, by rows, and is else as it was. -/
def Pim (l : List Nat) (o R C L : Nat) (T : Nat → Nat → Nat) (a b : Nat) (l' : List Nat) : Prop :=
  l'.length = l.length ∧ (∀ i, i < R → ∀ j, j < C → l'.getD (o + i + j * L) 0 = if i < a ∨ (i = a ∧ j < b) then T i j else l.getD (o + i + j * L) 0) ∧ ∀ x, (∀ i, i < R → ∀ j, j < C → x ≠ o + i + j * L) → l'.getD x 0 = l.getD x 0
theorem Pim.zero (l : List Nat) (o R C L : Nat) (T : Nat → Nat → Nat) : Pim l o R C L T 0 0 l := ⟨rfl, fun i _ j _ => by rw [if_neg (by omega)], fun _ _ => rfl⟩
theorem Pim.done {l l' : List Nat} {o R C L : Nat} {T : Nat → Nat → Nat} (h : Pim l o R C L T R 0 l') : Img l o R C L T l' :=
  ⟨h.1, fun i hi j hj => by rw [h.2.1 i hi j hj, if_pos (.inl hi)], h.2.2⟩
end Go.Proofs.Ytjjneiidggcfdaa
set_option linter.unusedVariables false
set_option linter.unusedSimpArgs false
set_option linter.unnecessarySimpa false
namespace Go.Proofs.Ytjjneiidggcfdaa
open Go.RowKit
attribute [local go_sem ↓] Go.wp_at_zero Go.wp_at_succ

/-- Two results that have lists of their own. -/
def Twin (Z : Nat) (l l' : List Nat) (f f' : Nat → Nat → Value) (d1 d3 : Bool) (va vb : Value) (W : World) : Prop :=
  d1 = true → ∃ g c, va = f g c ∧ Own W g l ∧ Z ≤ g ∧ (d3 = true → ∃ g' c', vb = f' g' c' ∧ Own W g' l' ∧ Z ≤ g' ∧ g ≠ g')
section
variable {Z : Nat} {l l' : List Nat} {f f' : Nat → Nat → Value} {d1 d3 : Bool} {va vb : Value} {W W' : World}
theorem Twin.nxt (h : Twin Z l l' f f' d1 d3 va vb W) (hb : Below W.heap.size W W') : Twin Z l l' f f' d1 d3 va vb W' := fun e => by
  obtain ⟨g, c, h1, h2, h3, h4⟩ := h e
  refine ⟨g, c, h1, h2.nxt hb, h3, fun e' => ?_⟩
  obtain ⟨g', c', k1, k2, k3, k4⟩ := h4 e'
  exact ⟨g', c', k1, k2.nxt hb, k3, k4⟩
theorem own_ne {g p : Nat} {t : TypeId} {cs : Array Value} (h : Own W g l) (hB : Blk W p t cs) (ht : t ≠ 25) : g ≠ p := by
  rintro rfl
  obtain ⟨cs', hB', _⟩ := h
  unfold Blk at hB hB'
  rw [hB] at hB'
  injection hB' with hB'
  injection hB' with _ e _
  exact ht e
theorem own_far {g p : Nat} (h : Own W g l) (hb : ∀ k, k ≠ p → W'.heap[k]? = W.heap[k]?) (hne : g ≠ p) : Own W' g l := by
  obtain ⟨cs', hB', h2⟩ := h
  exact ⟨cs', (hb g hne).trans hB', h2⟩
theorem Twin.far {p : Nat} {t : TypeId} {cs : Array Value} (h : Twin Z l l' f f' d1 d3 va vb W) (hB : Blk W p t cs) (ht : t ≠ 25) (hb : ∀ k, k ≠ p → W'.heap[k]? = W.heap[k]?) : Twin Z l l' f f' d1 d3 va vb W' := fun e => by
  obtain ⟨g, c, h1, h2, h3, h4⟩ := h e
  refine ⟨g, c, h1, own_far h2 hb (own_ne h2 hB ht), h3, fun e' => ?_⟩
  obtain ⟨g', c', k1, k2, k3, k4⟩ := h4 e'
  exact ⟨g', c', k1, own_far k2 hb (own_ne k2 hB ht), k3, k4⟩
theorem Twin.first {g c : Nat} (ho : Own W g l) (hZ : Z ≤ g) (h3 : d3 = false) : Twin Z l l' f f' true d3 (f g c) vb W := fun _ => ⟨g, c, rfl, ho, hZ, fun e => by rw [h3] at e; cases e⟩
theorem Twin.second {g' c' : Nat} (h : Twin Z l l' f f' true false va vb W) (hb : Below W.heap.size W W') (ho : Own W' g' l') (hZ : Z ≤ g') (hg : W.heap.size ≤ g') : Twin Z l l' f f' true true va (f' g' c') W' := fun _ => by
  obtain ⟨g, c, h1, h2, h3, h4⟩ := h rfl
  exact ⟨g, c, h1, h2.nxt hb, h3, fun _ => ⟨g', c', rfl, ho, hZ, by have := h2.lt; omega⟩⟩
end
/-- The cells of a struct. -/
def cellsV : Value → Array Value
  | .agg cs => cs
  | _ => #[]
theorem Two.chg1 {w0 W : World} {t : TypeId} {z a a' b : Array Value} {da db sb : Bool} {va vb : Value} (h : Two w0 t z a b da db false sb va vb W) : Two w0 t z a' b da db false sb va vb W := h
theorem Two.chg2 {w0 W : World} {t : TypeId} {z a b b' : Array Value} {da db sa : Bool} {va vb : Value} (h : Two w0 t z a b da db sa false va vb W) : Two w0 t z a b' da db sa false va vb W := h

end Go.Proofs.Ytjjneiidggcfdaa
set_option linter.unusedVariables false
set_option linter.unusedSimpArgs false
set_option linter.unnecessarySimpa false
namespace Go.Proofs.Ytjjneiidggcfdaa
open Go.RowKit
attribute [local go_sem ↓] Go.wp_at_zero Go.wp_at_succ

/-- Block g is of floats, and they meet S. -/
def OwnS (W : World) (S : Array Value → Prop) (g : Nat) : Prop := ∃ cs : Array Value, Blk W g 25 cs ∧ S cs
section
variable {W W' : World} {S S' : Array Value → Prop} {g : Nat}
theorem OwnS.nxt (h : OwnS W S g) (hb : Below W.heap.size W W') : OwnS W' S g := by
  obtain ⟨cs, h1, h2⟩ := h
  exact ⟨cs, h1.nxt hb, h2⟩
theorem OwnS.lt (h : OwnS W S g) : g < W.heap.size := by
  obtain ⟨cs, h1, h2⟩ := h
  exact h1.lt
theorem OwnS.ne_ {p : Nat} {t : TypeId} {cs : Array Value} (h : OwnS W S g) (hB : Blk W p t cs) (ht : t ≠ 25) : g ≠ p := by
  rintro rfl
  obtain ⟨cs', hB', _⟩ := h
  unfold Blk at hB hB'
  rw [hB] at hB'
  injection hB' with hB'
  injection hB' with _ e _
  exact ht e
theorem OwnS.far {p : Nat} (h : OwnS W S g) (hb : ∀ k, k ≠ p → W'.heap[k]? = W.heap[k]?) (hne : g ≠ p) : OwnS W' S g := by
  obtain ⟨cs', hB', h2⟩ := h
  exact ⟨cs', (hb g hne).trans hB', h2⟩
end
/-- Two results, each with a block of its own. -/
def Twn (Z : Nat) (S S' : Array Value → Prop) (f f' : Nat → Nat → Value) (d1 d3 : Bool) (va vb : Value) (W : World) : Prop :=
  d1 = true → ∃ g c, va = f g c ∧ OwnS W S g ∧ Z ≤ g ∧ (d3 = true → ∃ g' c', vb = f' g' c' ∧ OwnS W S' g' ∧ Z ≤ g' ∧ g ≠ g')
section
variable {Z : Nat} {S S' : Array Value → Prop} {f f' : Nat → Nat → Value} {d1 d3 : Bool} {va vb : Value} {W W' : World}
theorem Twn.nxt (h : Twn Z S S' f f' d1 d3 va vb W) (hb : Below W.heap.size W W') : Twn Z S S' f f' d1 d3 va vb W' := fun e => by
  obtain ⟨g, c, h1, h2, h3, h4⟩ := h e
  refine ⟨g, c, h1, h2.nxt hb, h3, fun e' => ?_⟩
  obtain ⟨g', c', k1, k2, k3, k4⟩ := h4 e'
  exact ⟨g', c', k1, k2.nxt hb, k3, k4⟩
theorem Twn.far {p : Nat} {t : TypeId} {cs : Array Value} (h : Twn Z S S' f f' d1 d3 va vb W) (hB : Blk W p t cs) (ht : t ≠ 25) (hb : ∀ k, k ≠ p → W'.heap[k]? = W.heap[k]?) : Twn Z S S' f f' d1 d3 va vb W' := fun e => by
  obtain ⟨g, c, h1, h2, h3, h4⟩ := h e
  refine ⟨g, c, h1, h2.far hb (h2.ne_ hB ht), h3, fun e' => ?_⟩
  obtain ⟨g', c', k1, k2, k3, k4⟩ := h4 e'
  exact ⟨g', c', k1, k2.far hb (k2.ne_ hB ht), k3, k4⟩
theorem Twn.first {g c : Nat} (ho : OwnS W S g) (hZ : Z ≤ g) (h3 : d3 = false) : Twn Z S S' f f' true d3 (f g c) vb W := fun _ => ⟨g, c, rfl, ho, hZ, fun e => by rw [h3] at e; cases e⟩
theorem Twn.second {g' c' : Nat} (h : Twn Z S S' f f' true false va vb W) (hb : Below W.heap.size W W') (ho : OwnS W' S' g') (hZ : Z ≤ g') (hg : W.heap.size ≤ g') : Twn Z S S' f f' true true va (f' g' c') W' := fun _ => by
  obtain ⟨g, c, h1, h2, h3, h4⟩ := h rfl
  exact ⟨g, c, h1, h2.nxt hb, h3, fun _ => ⟨g', c', rfl, ho, hZ, by have := h2.lt; omega⟩⟩
end
end Go.Proofs.Ytjjneiidggcfdaa
set_option linter.unusedVariables false
set_option linter.unusedSimpArgs false
set_option linter.unnecessarySimpa false
namespace Go.Proofs.Ytjjneiidggcfdaa
open Go.RowKit
attribute [local go_sem ↓] Go.wp_at_zero Go.wp_at_succ


theorem pairI_n0 (n : Nat) (off k inc off' k' inc' : Int) : pairI (decide (0 < n)) n off k inc n off' k' inc' = pairI true n off k inc n off' k' inc' := by
  rcases Nat.eq_zero_or_pos n with h | h
  · subst h
    unfold pairI
    split
    · rename_i h1
      split
      · split
        · have hk : k = 0 := by
            obtain ⟨o, K, i, rfl, rfl, rfl, h3, h4⟩ := vec_nat h1
            omega
          subst hk
          simp [metB]
        · rfl
      · rfl
    · rfl
  · rw [decide_eq_true h]


end Go.Proofs.Ytjjneiidggcfdaa
set_option linter.unusedVariables false
set_option linter.unusedSimpArgs false
set_option linter.unnecessarySimpa false
namespace Go.Proofs.Ytjjneiidggcfdaa
open Go.RowKit
attribute [local go_sem ↓] Go.wp_at_zero Go.wp_at_succ


set_option maxRecDepth 100000 in
set_option maxHeartbeats 4000000 in
theorem axesAdd_err2 (a : Nat) (A : Option Addr) (n c : Nat) (l : List Nat) (off k inc : Int) (A' : Option Addr) (n' c' : Nat) (l' : List Nat) (off' k' inc' : Int) (w : World) (hA : Row w A (f64s l)) (hA' : Row w A' (f64s l')) (hW : Wds l) (hW' : Wds l') (hl : l.length = n) (hl' : l'.length = n') (hn : n ≤ 1000) (hn' : n' ≤ 1000) (hk60 : k ≤ 60) (hk60' : k' ≤ 60) (ho : I64 off) (hk : I64 k) (hi : I64 inc) (ho' : I64 off') (hk' : I64 k') (hi' : I64 inc') (P : Int) (hP : pairI false n' off' k' inc' n off k inc = P) (hP0 : P ≠ 0) :
    Calls Try.prog 4 #[.float .f64 a, vec A n c off k inc, vec A' n' c' off' k' inc', .bool false] w fun e w' => e = .returned (.bool true) ∧ Below w.heap.size w w' := by
  have HLg := Lib.hid (fun W => long_any A n c off k inc W)
  have HLg' := Lib.hid (fun W => long_any A' n' c' off' k' inc' W)
  rw [show longB n k = false by unfold longB; simp; omega] at HLg
  rw [show longB n' k' = false by unfold longB; simp; omega] at HLg'
  have HAx := Lib.hid (fun W (hb : Below w.heap.size w W) => show Calls Try.prog 23 #[vec A n c off k inc] W fun e w' => ∃ g c', e = .returned (vec (some ⟨g, 0, none⟩) n c' off k inc) ∧ OwnS w' (fun cs => cs.toList.take (l).length = f64s l) g ∧ W.heap.size ≤ g ∧ Below W.heap.size W w' from by
    have := ralone_any A c l off k inc W (hA.below hb) (by omega)
    rw [hl] at this
    exact this.mono fun e w' ⟨g, c', e1, e2, e3, _, _, e4⟩ => ⟨g, c', e1, e2, e3, e4⟩)

  have HAy := Lib.hid (fun W (hb : Below w.heap.size w W) => show Calls Try.prog 23 #[vec A' n' c' off' k' inc'] W fun e w' => ∃ g c', e = .returned (vec (some ⟨g, 0, none⟩) n' c' off' k' inc') ∧ OwnS w' (fun cs => cs.toList.take (l').length = f64s l') g ∧ W.heap.size ≤ g ∧ Below W.heap.size W w' from by
    have := ralone_any A' c' l' off' k' inc' W (hA'.below hb) (by omega)
    rw [hl'] at this
    exact this.mono fun e w' ⟨g, c', e1, e2, e3, _, _, e4⟩ => ⟨g, c', e1, e2, e3, e4⟩)

  have HRp := Lib.hid (fun W => show Calls Try.prog 25 #[vec A' n' c' off' k' inc', vec A n c off k inc, .bool false] W fun e w' => e = .returned (.int .i64 P) ∧ Below W.heap.size W w' from by
    have := rpair_any A' A n' c' off' k' inc' n c off k inc false W (by omega) (by omega) ho' hk' hi' ho hk hi
    rw [hP] at this; exact this)
  have HAp := Lib.hid (fun W (g g' c c' : Nat) (hne : g' ≠ g) (hO : Own W g l) (hO' : Own W g' l') => axpy_err a g' g c' c l' l n' n off' k' inc' off k inc W hO' hO hl' hl (by omega) (by omega) ho' hk' hi' ho hk hi P (by rw [show decide (g' = g) = false from decide_eq_false hne]; exact hP) hP0)
  have HAll := Lib.hid (fun W (A B : Option Addr) (c d : Nat) (h1 : Row W A (f64s l)) (h2 : Row W B (f64s l)) => show Calls Try.prog 26 #[.slice A n c, .slice B n d] W fun e w' => e = .returned (.bool true) ∧ Below W.heap.size W w' from by
    have := rall_any A B c d l l W hW hW h1 h2 (by omega) (Alike.refl l)
    rw [hl] at this; exact this)
  have HAll' := Lib.hid (fun W (A B : Option Addr) (c d : Nat) (h1 : Row W A (f64s l')) (h2 : Row W B (f64s l')) => show Calls Try.prog 26 #[.slice A n' c, .slice B n' d] W fun e w' => e = .returned (.bool true) ∧ Below W.heap.size W w' from by
    have := rall_any A B c d l' l' W hW' hW' h1 h2 (by omega) (Alike.refl l')
    rw [hl'] at this; exact this)

  have hP1 : (P == 0) = false := by simp [hP0]
  have hP2 : (P != 0) = true := by simp [hP0]
  have hPP : (P == P) = true := by simp
  have hPQ : (P != P) = false := by simp
  have HA := Lib.hid hA
  have HA' := Lib.hid hA'
  clear hA hA' hW hW' hl hl' hn hn' hk60 hk60' ho hk hi ho' hk' hi' hP hP0
  unfold vec at *
  go_enter Try.func4, Try.ntmps4
  have Hx0 := Lib.hid ((Blk.new w 30 #[.slice A n c, .int .i64 off, .int .i64 k, .int .i64 inc]).alloc (.cells #[.slice A' n' c', .int .i64 off', .int .i64 k', .int .i64 inc'] 30))
  have Hy0 := Lib.hid (Blk.new_ (w.alloc (.cells #[.slice A n c, .int .i64 off, .int .i64 k, .int .i64 inc] 30)) 30 #[.slice A' n' c', .int .i64 off', .int .i64 k', .int .i64 inc'] (w.heap.size + 1) (by simp))
  have HB0 := Lib.hid (((Below.refl w.heap.size w).alloc (Nat.le_refl _) (.cells #[.slice A n c, .int .i64 off, .int .i64 k, .int .i64 inc] 30)).alloc (by simp) (.cells #[.slice A' n' c', .int .i64 off', .int .i64 k', .int .i64 inc'] 30))
  obtain ⟨x0, x1, x2, x3⟩ := cells4w Hx0.out
  obtain ⟨y0, y1, y2, y3⟩ := cells4w Hy0.out
  go_wp2_with fail
  refine (awake6_any _).mono ?_
  rintro e w1 ⟨rfl, hb⟩
  have Hx1 := Lib.hid (Hx0.out.nxt hb)
  have Hy1 := Lib.hid (Hy0.out.nxt hb)
  have HB1 := Lib.hid (below_nx HB0.out hb)
  clear hb
  clear x0 x1 x2 x3 y0 y1 y2 y3
  obtain ⟨x0, x1, x2, x3⟩ := cells4w Hx1.out
  obtain ⟨y0, y1, y2, y3⟩ := cells4w Hy1.out
  go_wp2_with fail
  refine (HLg.out _).mono ?_
  rintro e w2 ⟨rfl, hb⟩
  have Hx2 := Lib.hid (Hx1.out.nxt hb)
  have Hy2 := Lib.hid (Hy1.out.nxt hb)
  have HB2 := Lib.hid (below_nx HB1.out hb)
  clear hb
  clear x0 x1 x2 x3 y0 y1 y2 y3
  obtain ⟨x0, x1, x2, x3⟩ := cells4w Hx2.out
  obtain ⟨y0, y1, y2, y3⟩ := cells4w Hy2.out
  go_wp2_with fail
  refine (HLg'.out _).mono ?_
  rintro e w3 ⟨rfl, hb⟩
  have Hx3 := Lib.hid (Hx2.out.nxt hb)
  have Hy3 := Lib.hid (Hy2.out.nxt hb)
  have HB3 := Lib.hid (below_nx HB2.out hb)
  clear hb
  clear x0 x1 x2 x3 y0 y1 y2 y3
  obtain ⟨x0, x1, x2, x3⟩ := cells4w Hx3.out
  obtain ⟨y0, y1, y2, y3⟩ := cells4w Hy3.out
  go_wp2_with fail
  refine wp_region_inv [27, 28, 29, 30, 9, 10] (fun d s W => (d 0 = true → s 27 = .agg #[.slice A n c, .int .i64 off, .int .i64 k, .int .i64 inc]) ∧ (d 2 = true → s 29 = .agg #[.slice A' n' c', .int .i64 off', .int .i64 k', .int .i64 inc']) ∧ Twn w3.heap.size (fun cs => cs.toList.take (l).length = f64s l) (fun cs => cs.toList.take (l').length = f64s l') (fun g c => .agg #[.slice (some ⟨g, 0, none⟩) n c, .int .i64 off, .int .i64 k, .int .i64 inc]) (fun g c => .agg #[.slice (some ⟨g, 0, none⟩) n' c, .int .i64 off', .int .i64 k', .int .i64 inc']) (d 1) (d 3) (s 28) (s 30) W ∧
    Two w3 30 #[.slice none 0 0, .int .i64 0, .int .i64 0, .int .i64 0] (cellsV (s 28)) (cellsV (s 30)) (d 4) (d 5) (d 6) (d 7) (s 9) (s 10) W ∧ (d 6 = true → d 4 = true ∧ d 1 = true) ∧ (d 7 = true → d 5 = true ∧ d 3 = true) ∧ (d 3 = true → d 1 = true))
    rfl (by kernel_rfl) ?_ ?_ ?_
  · exact ⟨by simp, by simp, fun h => by simp at h, ⟨(Below.refl _ _).drew, by simp, by simp, by simp⟩, by simp, by simp, by simp⟩
  · refine ⟨?_, ?_, ?_, ?_, ?_, ?_, ?_, ?_, trivial⟩
    all_goals
      intro d s W hJ hfr hd hdep
      simp only [List.mem_cons, forall_eq_or_imp, List.not_mem_nil, false_implies, implies_true, and_true, Region.binds] at hdep
      have f0 := hfr 5 (by decide)
      have f1 := hfr 6 (by decide)
      simp at f0 f1 hdep
      obtain ⟨h0, h2, hTw, hT, hx, hy, hv⟩ := hJ
      unfold OpSteps
    · obtain ⟨p0, p1, p2, p3⟩ := cells4w (Hx3.out.below hT.1 Hx3.out.lt)
      simp [go_sem, evS, f0, p0, p1, p2, p3]
      exact ⟨fun _ => by simp [sput], fun h => by simpa [sput] using h2 (by simpa [did] using h), by simpa [sput, did] using hTw, by simpa [sput, did] using hT, fun h => by simpa [did] using hx (by simpa [did] using h), fun h => by simpa [did] using hy (by simpa [did] using h), fun h => by simpa [did] using hv (by simpa [did] using h)⟩
    · have g0 := h0 (by simpa using hdep)
      have hd3 : d 3 = false := by
        cases h : d 3
        · rfl
        · have := hv h; rw [hd] at this; cases this
      have hd6 : d 6 = false := by
        cases h : d 6
        · rfl
        · have := (hx h).2; rw [hd] at this; cases this
      simp [go_sem, evS, g0]
      refine (HAx.out W (below_nx HB3.out hT.1)).mono ?_
      rintro e W' ⟨g, c9, rfl, ho, hg, hb⟩
      refine ⟨_, rfl, ?_⟩
      have hT2 := hT.nxt hb
      rw [hd6] at hT2
      have hT2 := hT2.chg1 (a' := cellsV (.agg #[.slice (some ⟨g, 0, none⟩) n c9, .int .i64 off, .int .i64 k, .int .i64 inc]))
      have hTw2 := Twn.first (Z := w3.heap.size) (S := (fun cs => cs.toList.take (l).length = f64s l)) (S' := (fun cs => cs.toList.take (l').length = f64s l')) (f := (fun g c => .agg #[.slice (some ⟨g, 0, none⟩) n c, .int .i64 off, .int .i64 k, .int .i64 inc])) (f' := (fun g c => .agg #[.slice (some ⟨g, 0, none⟩) n' c, .int .i64 off', .int .i64 k', .int .i64 inc'])) (d3 := false) (vb := s 30) (c := c9) ho (Nat.le_trans hT.1.size hg) rfl
      exact ⟨fun h => by simpa [sput] using h0 (by simpa [did] using h), fun h => by simpa [sput] using h2 (by simpa [did] using h), by simpa [sput, did, hd3] using hTw2, by simpa [sput, did, hd6] using hT2, fun h => by simp [did, hd6] at h, fun h => by simpa [did] using hy (by simpa [did] using h), fun h => by simp [did]⟩
    · obtain ⟨p0, p1, p2, p3⟩ := cells4w (Hy3.out.below hT.1 Hy3.out.lt)
      simp [go_sem, evS, f1, p0, p1, p2, p3]
      exact ⟨fun h => by simpa [sput] using h0 (by simpa [did] using h), fun _ => by simp [sput], by simpa [sput, did] using hTw, by simpa [sput, did] using hT, fun h => by simpa [did] using hx (by simpa [did] using h), fun h => by simpa [did] using hy (by simpa [did] using h), fun h => by simpa [did] using hv (by simpa [did] using h)⟩
    · have g0 := h2 (by simpa using hdep.1)
      have hd1 : d 1 = true := by simpa using hdep.2
      have hd7 : d 7 = false := by
        cases h : d 7
        · rfl
        · have := (hy h).2; rw [hd] at this; cases this
      simp [go_sem, evS, g0]
      refine (HAy.out W (below_nx HB3.out hT.1)).mono ?_
      rintro e W' ⟨g, c9, rfl, ho, hg, hb⟩
      refine ⟨_, rfl, ?_⟩
      have hT2 := hT.nxt hb
      rw [hd7] at hT2
      have hT2 := hT2.chg2 (b' := cellsV (.agg #[.slice (some ⟨g, 0, none⟩) n' c9, .int .i64 off', .int .i64 k', .int .i64 inc']))
      rw [hd1, hd] at hTw
      have hTw2 := hTw.second hb (c' := c9) ho (Nat.le_trans hT.1.size hg) hg
      exact ⟨fun h => by simpa [sput] using h0 (by simpa [did] using h), fun h => by simpa [sput] using h2 (by simpa [did] using h), by simpa [sput, did, hd1] using hTw2, by simpa [sput, did, hd7] using hT2, fun h => by simpa [did] using hx (by simpa [did] using h), fun h => by simp [did, hd7] at h, fun h => by simpa [did] using hd1⟩
    · have hd6 : d 6 = false := by
        cases h : d 6
        · rfl
        · have := (hx h).1; rw [hd] at this; cases this
      rw [hd, hd6] at hT
      have hT2 := hT.alloc1
      have hTw2 := hTw.nxt (below_one (W := W) (o := .cells #[.slice none 0 0, .int .i64 0, .int .i64 0, .int .i64 0] 30))
      simp [go_sem, evS]
      exact ⟨fun h => by simpa [sput] using h0 (by simpa [did] using h), fun h => by simpa [sput] using h2 (by simpa [did] using h), by simpa [sput, did] using hTw2, by simpa [sput, did, hd6] using hT2, fun h => by simp [did, hd6] at h, fun h => by simpa [did] using hy (by simpa [did] using h), fun h => by simpa [did] using hv (by simpa [did] using h)⟩
    · have hd7 : d 7 = false := by
        cases h : d 7
        · rfl
        · have := (hy h).1; rw [hd] at this; cases this
      rw [hd, hd7] at hT
      have hT2 := hT.alloc2
      have hTw2 := hTw.nxt (below_one (W := W) (o := .cells #[.slice none 0 0, .int .i64 0, .int .i64 0, .int .i64 0] 30))
      simp [go_sem, evS]
      exact ⟨fun h => by simpa [sput] using h0 (by simpa [did] using h), fun h => by simpa [sput] using h2 (by simpa [did] using h), by simpa [sput, did] using hTw2, by simpa [sput, did, hd7] using hT2, fun h => by simpa [did] using hx (by simpa [did] using h), fun h => by simp [did, hd7] at h, fun h => by simpa [did] using hv (by simpa [did] using h)⟩
    · have e4 : d 4 = true := by simp [hdep]
      have e1 : d 1 = true := by simp [hdep]
      have hTw0 := hTw
      obtain ⟨gg, cc, hva, hO1, hZ1, hrest⟩ := hTw e1
      rw [hd, e4] at hT
      obtain ⟨p, hp, hp2, hpB⟩ := hT.2.1 rfl
      simp only [Bool.false_eq_true, if_false] at hpB
      obtain ⟨r0, r1, r2, r3⟩ := cells4w hpB
      obtain ⟨q0, q1, q2, q3⟩ := frozen4w hpB
      rw [hp] at hT
      have hfar : ∀ k9, k9 ≠ p → _ := fun k9 (hk9 : k9 ≠ p) => heap_sets4 (w := W) hk9 (.slice (some ⟨gg, 0, none⟩) n cc) (.int .i64 off) (.int .i64 k) (.int .i64 inc)
      have hst := hpB.store4v (.slice (some ⟨gg, 0, none⟩) n cc) (.int .i64 off) (.int .i64 k) (.int .i64 inc)
      have hT2 := hT.store1 (W' := ((((W.setCell ⟨p, 0, none⟩ (.slice (some ⟨gg, 0, none⟩) n cc)).setCell ⟨p, 1, none⟩ (.int .i64 off)).setCell ⟨p, 2, none⟩ (.int .i64 k)).setCell ⟨p, 3, none⟩ (.int .i64 inc))) hfar (by rw [hva]; exact hst) (rest_sets4 _ _ _ _ _ _ _ _ _)
      have hTw2 := hTw0.far hpB (by decide) hfar
      simp [go_sem, evS, hp, hva, r0, r1, r2, r3, q0, q1, q2, q3]
      exact ⟨fun h => by simpa [sput] using h0 (by simpa [did] using h), fun h => by simpa [sput] using h2 (by simpa [did] using h), by simpa [sput, did] using hTw2, by simpa [sput, did, hp, e4] using hT2, fun _ => by simp [did, e4, e1], fun h => by simpa [did] using hy (by simpa [did] using h), fun h => by simpa [did] using hv (by simpa [did] using h)⟩
    · have e5 : d 5 = true := by simp [hdep]
      have e1 : d 3 = true := by simp [hdep]
      have hTw0 := hTw
      obtain ⟨gg0, cc0, hva0, hO1, hZ1, hrest⟩ := hTw (hv e1)
      obtain ⟨gg, cc, hva, hO2, hZ2, hne2⟩ := hrest e1
      rw [hd, e5] at hT
      obtain ⟨p, hp, hp2, hpB⟩ := hT.2.2.1 rfl
      simp only [Bool.false_eq_true, if_false] at hpB
      obtain ⟨r0, r1, r2, r3⟩ := cells4w hpB
      obtain ⟨q0, q1, q2, q3⟩ := frozen4w hpB
      rw [hp] at hT
      have hfar : ∀ k9, k9 ≠ p → _ := fun k9 (hk9 : k9 ≠ p) => heap_sets4 (w := W) hk9 (.slice (some ⟨gg, 0, none⟩) n' cc) (.int .i64 off') (.int .i64 k') (.int .i64 inc')
      have hst := hpB.store4v (.slice (some ⟨gg, 0, none⟩) n' cc) (.int .i64 off') (.int .i64 k') (.int .i64 inc')
      have hT2 := hT.store2 (W' := ((((W.setCell ⟨p, 0, none⟩ (.slice (some ⟨gg, 0, none⟩) n' cc)).setCell ⟨p, 1, none⟩ (.int .i64 off')).setCell ⟨p, 2, none⟩ (.int .i64 k')).setCell ⟨p, 3, none⟩ (.int .i64 inc'))) hfar (by rw [hva]; exact hst) (rest_sets4 _ _ _ _ _ _ _ _ _)
      have hTw2 := hTw0.far hpB (by decide) hfar
      simp [go_sem, evS, hp, hva, r0, r1, r2, r3, q0, q1, q2, q3]
      exact ⟨fun h => by simpa [sput] using h0 (by simpa [did] using h), fun h => by simpa [sput] using h2 (by simpa [did] using h), by simpa [sput, did] using hTw2, by simpa [sput, did, hp, e5] using hT2, fun h => by simpa [did] using hx (by simpa [did] using h), fun _ => by simp [did, e5, e1], fun h => by simpa [did] using hv (by simpa [did] using h)⟩
  intro d s W hJ hd
  obtain ⟨_, _, hTw, hT, _, _, _⟩ := hJ
  obtain ⟨g1, c1, hsA, hO1, hZ1, hrest⟩ := hTw (hd 1 (by decide))
  obtain ⟨g2, c2, hsB, hO2, hZ2, hg12⟩ := hrest (hd 3 (by decide))
  obtain ⟨hb, hp, hq, hne⟩ := hT
  obtain ⟨p, hp, hp2, hpB⟩ := hp (hd 4 (by decide))
  obtain ⟨q, hq, hq2, hqB⟩ := hq (hd 5 (by decide))
  have hpq := hne (hd 4 (by decide)) (hd 5 (by decide))
  rw [hd 6 (by decide), hsA] at hpB
  rw [hd 7 (by decide), hsB] at hqB
  rw [hp, hq] at hpq
  have hpq2 : p ≠ q := fun e => hpq (by rw [e])
  simp only [if_true, cellsV] at hpB hqB
  clear hne hTw hrest hpq hd
  simp [setAll, hp, hq]
  clear hp hq hsA hsB
  generalize s 27 = s26
  generalize s 28 = s27
  generalize s 29 = s28
  generalize s 30 = s29
  have Hx4 := Lib.hid (Hx3.out.below hb Hx3.out.lt)
  have Hy4 := Lib.hid (Hy3.out.below hb Hy3.out.lt)
  have Hp4 := Lib.hid hpB
  have Hq4 := Lib.hid hqB
  have Hu4 := Lib.hid hO1
  have Hv4 := Lib.hid hO2
  have HB4 := Lib.hid (below_nx HB3.out hb)
  have Hg1g2 := Lib.hid hg12
  have hlo0 := Hy3.out.lt
  have Hpqz := Lib.hid (show w.heap.size + 1 < g1 ∧ w.heap.size + 1 < g2 ∧ w.heap.size + 1 < p ∧ w.heap.size + 1 < q by omega)
  have Hpq := Lib.hid hpq2
  clear hpB hqB hO1 hO2 hb hg12 hpq2 hZ1 hZ2 hp2 hq2 hlo0
  clear x0 x1 x2 x3 y0 y1 y2 y3
  obtain ⟨x0, x1, x2, x3⟩ := cells4w Hx4.out
  obtain ⟨y0, y1, y2, y3⟩ := cells4w Hy4.out
  obtain ⟨p0, p1, p2, p3⟩ := cells4w Hp4.out
  obtain ⟨q0, q1, q2, q3⟩ := cells4w Hq4.out
  have Hu4' := Lib.hid (show Own W g1 l from Hu4.out)
  have Hv4' := Lib.hid (show Own W g2 l' from Hv4.out)
  clear Hu4 Hv4
  have Hu4 := Hu4'
  have Hv4 := Hv4'
  clear Hu4' Hv4'
  go_wp2_with fail
  refine (HAp.out _ _ _ _ _ (Hg1g2.out).symm Hu4.out Hv4.out).mono ?_
  rintro e w6 ⟨rfl, hb⟩
  have Hx5 := Lib.hid (Hx4.out.nxt hb)
  have Hy5 := Lib.hid (Hy4.out.nxt hb)
  have Hp5 := Lib.hid (Hp4.out.nxt hb)
  have Hq5 := Lib.hid (Hq4.out.nxt hb)
  have Hu5 := Lib.hid (Hu4.out.nxt hb)
  have Hv5 := Lib.hid (Hv4.out.nxt hb)
  have HB5 := Lib.hid (below_nx HB4.out hb)
  clear hb
  clear x0 x1 x2 x3 y0 y1 y2 y3 p0 p1 p2 p3 q0 q1 q2 q3
  obtain ⟨x0, x1, x2, x3⟩ := cells4w Hx5.out
  obtain ⟨y0, y1, y2, y3⟩ := cells4w Hy5.out
  obtain ⟨p0, p1, p2, p3⟩ := cells4w Hp5.out
  obtain ⟨q0, q1, q2, q3⟩ := cells4w Hq5.out
  go_wp2_with fail
  refine (HRp.out _).mono ?_
  rintro e w7 ⟨rfl, hb⟩
  have Hx6 := Lib.hid (Hx5.out.nxt hb)
  have Hy6 := Lib.hid (Hy5.out.nxt hb)
  have Hp6 := Lib.hid (Hp5.out.nxt hb)
  have Hq6 := Lib.hid (Hq5.out.nxt hb)
  have Hu6 := Lib.hid (Hu5.out.nxt hb)
  have Hv6 := Lib.hid (Hv5.out.nxt hb)
  have HB6 := Lib.hid (below_nx HB5.out hb)
  clear hb
  clear x0 x1 x2 x3 y0 y1 y2 y3 p0 p1 p2 p3 q0 q1 q2 q3
  obtain ⟨x0, x1, x2, x3⟩ := cells4w Hx6.out
  obtain ⟨y0, y1, y2, y3⟩ := cells4w Hy6.out
  obtain ⟨p0, p1, p2, p3⟩ := cells4w Hp6.out
  obtain ⟨q0, q1, q2, q3⟩ := cells4w Hq6.out
  go_wp2_with fail
  refine (HAll.out _ _ _ _ _ Hu6.out.row (HA.out.below HB6.out)).mono ?_
  rintro e w8 ⟨rfl, hb⟩
  have Hx7 := Lib.hid (Hx6.out.nxt hb)
  have Hy7 := Lib.hid (Hy6.out.nxt hb)
  have Hp7 := Lib.hid (Hp6.out.nxt hb)
  have Hq7 := Lib.hid (Hq6.out.nxt hb)
  have Hu7 := Lib.hid (Hu6.out.nxt hb)
  have Hv7 := Lib.hid (Hv6.out.nxt hb)
  have HB7 := Lib.hid (below_nx HB6.out hb)
  clear hb
  clear x0 x1 x2 x3 y0 y1 y2 y3 p0 p1 p2 p3 q0 q1 q2 q3
  obtain ⟨x0, x1, x2, x3⟩ := cells4w Hx7.out
  obtain ⟨y0, y1, y2, y3⟩ := cells4w Hy7.out
  obtain ⟨p0, p1, p2, p3⟩ := cells4w Hp7.out
  obtain ⟨q0, q1, q2, q3⟩ := cells4w Hq7.out
  go_wp2_with fail
  refine (HAll'.out _ _ _ _ _ Hv7.out.row (HA'.out.below HB7.out)).mono ?_
  rintro e w9 ⟨rfl, hb⟩
  have Hx8 := Lib.hid (Hx7.out.nxt hb)
  have Hy8 := Lib.hid (Hy7.out.nxt hb)
  have Hp8 := Lib.hid (Hp7.out.nxt hb)
  have Hq8 := Lib.hid (Hq7.out.nxt hb)
  have Hu8 := Lib.hid (Hu7.out.nxt hb)
  have Hv8 := Lib.hid (Hv7.out.nxt hb)
  have HB8 := Lib.hid (below_nx HB7.out hb)
  clear hb
  clear x0 x1 x2 x3 y0 y1 y2 y3 p0 p1 p2 p3 q0 q1 q2 q3
  obtain ⟨x0, x1, x2, x3⟩ := cells4w Hx8.out
  obtain ⟨y0, y1, y2, y3⟩ := cells4w Hy8.out
  obtain ⟨p0, p1, p2, p3⟩ := cells4w Hp8.out
  obtain ⟨q0, q1, q2, q3⟩ := cells4w Hq8.out
  go_wp2_with fail
  refine (awake6_any _).mono ?_
  rintro e w10 ⟨rfl, hb⟩
  have Hx9 := Lib.hid (Hx8.out.nxt hb)
  have Hy9 := Lib.hid (Hy8.out.nxt hb)
  have Hp9 := Lib.hid (Hp8.out.nxt hb)
  have Hq9 := Lib.hid (Hq8.out.nxt hb)
  have Hu9 := Lib.hid (Hu8.out.nxt hb)
  have Hv9 := Lib.hid (Hv8.out.nxt hb)
  have HB9 := Lib.hid (below_nx HB8.out hb)
  clear hb
  clear x0 x1 x2 x3 y0 y1 y2 y3 p0 p1 p2 p3 q0 q1 q2 q3
  obtain ⟨x0, x1, x2, x3⟩ := cells4w Hx9.out
  obtain ⟨y0, y1, y2, y3⟩ := cells4w Hy9.out
  obtain ⟨p0, p1, p2, p3⟩ := cells4w Hp9.out
  obtain ⟨q0, q1, q2, q3⟩ := cells4w Hq9.out
  go_wp2_with fail
  go_ret
  exact ⟨rfl, HB9.out⟩
end Go.Proofs.Ytjjneiidggcfdaa
set_option linter.unusedVariables false
set_option linter.unusedSimpArgs false
set_option linter.unnecessarySimpa false
namespace Go.Proofs.Ytjjneiidggcfdaa
open Go.RowKit
attribute [local go_sem ↓] Go.wp_at_zero Go.wp_at_succ


set_option maxRecDepth 100000 in
set_option maxHeartbeats 4000000 in
theorem axesAdd_err1 (a : Nat) (A : Option Addr) (n c : Nat) (l : List Nat) (off k inc : Int) (A' : Option Addr) (n' c' : Nat) (l' : List Nat) (off' k' inc' : Int) (w : World) (hA : Row w A (f64s l)) (hA' : Row w A' (f64s l')) (hW : Wds l) (hW' : Wds l') (hl : l.length = n) (hl' : l'.length = n') (hn : n ≤ 1000) (hn' : n' ≤ 1000) (hk60 : k ≤ 60) (hk60' : k' ≤ 60) (ho : I64 off) (hk : I64 k) (hi : I64 inc) (ho' : I64 off') (hk' : I64 k') (hi' : I64 inc') (P : Int) (hP : pairI true n off' k' inc' n off k inc = P) (hP0 : P ≠ 0) :
    Calls Try.prog 4 #[.float .f64 a, vec A n c off k inc, vec A' n' c' off' k' inc', .bool true] w fun e w' => e = .returned (.bool true) ∧ Below w.heap.size w w' := by
  have HLg := Lib.hid (fun W => long_any A n c off k inc W)
  have HLg' := Lib.hid (fun W => long_any A' n' c' off' k' inc' W)
  rw [show longB n k = false by unfold longB; simp; omega] at HLg
  rw [show longB n' k' = false by unfold longB; simp; omega] at HLg'
  have HAx := Lib.hid (fun W (hb : Below w.heap.size w W) => show Calls Try.prog 23 #[vec A n c off k inc] W fun e w' => ∃ g c', e = .returned (vec (some ⟨g, 0, none⟩) n c' off k inc) ∧ OwnS w' (fun cs => cs.toList.take (l).length = f64s l) g ∧ W.heap.size ≤ g ∧ Below W.heap.size W w' from by
    have := ralone_any A c l off k inc W (hA.below hb) (by omega)
    rw [hl] at this
    exact this.mono fun e w' ⟨g, c', e1, e2, e3, _, _, e4⟩ => ⟨g, c', e1, e2, e3, e4⟩)

  have HAy := Lib.hid (fun W (hb : Below w.heap.size w W) => show Calls Try.prog 23 #[vec A n c off' k' inc'] W fun e w' => ∃ g c', e = .returned (vec (some ⟨g, 0, none⟩) n c' off' k' inc') ∧ OwnS w' (fun cs => cs.toList.take (l).length = f64s l) g ∧ W.heap.size ≤ g ∧ Below W.heap.size W w' from by
    have := ralone_any A c l off' k' inc' W (hA.below hb) (by omega)
    rw [hl] at this
    exact this.mono fun e w' ⟨g, c', e1, e2, e3, _, _, e4⟩ => ⟨g, c', e1, e2, e3, e4⟩)

  have HRp := Lib.hid (fun W => show Calls Try.prog 25 #[vec A n c off' k' inc', vec A n c off k inc, .bool (decide (0 < n))] W fun e w' => e = .returned (.int .i64 P) ∧ Below W.heap.size W w' from by
    have := rpair_any A A n c off' k' inc' n c off k inc (decide (0 < n)) W (by omega) (by omega) ho' hk' hi' ho hk hi
    rw [pairI_n0, hP] at this; exact this)
  have HAp := Lib.hid (fun W (g c c' : Nat) (hO : Own W g l) => axpy_err a g g c' c l l n n off' k' inc' off k inc W hO hO hl hl (by omega) (by omega) ho' hk' hi' ho hk hi P (by rw [show decide (g = g) = true from decide_eq_true rfl]; exact hP) hP0)
  have HAll := Lib.hid (fun W (A B : Option Addr) (c d : Nat) (h1 : Row W A (f64s l)) (h2 : Row W B (f64s l)) => show Calls Try.prog 26 #[.slice A n c, .slice B n d] W fun e w' => e = .returned (.bool true) ∧ Below W.heap.size W w' from by
    have := rall_any A B c d l l W hW hW h1 h2 (by omega) (Alike.refl l)
    rw [hl] at this; exact this)
  have HAll' := Lib.hid (fun W (A B : Option Addr) (c d : Nat) (h1 : Row W A (f64s l')) (h2 : Row W B (f64s l')) => show Calls Try.prog 26 #[.slice A n' c, .slice B n' d] W fun e w' => e = .returned (.bool true) ∧ Below W.heap.size W w' from by
    have := rall_any A B c d l' l' W hW' hW' h1 h2 (by omega) (Alike.refl l')
    rw [hl'] at this; exact this)

  have hP1 : (P == 0) = false := by simp [hP0]
  have hP2 : (P != 0) = true := by simp [hP0]
  have hPP : (P == P) = true := by simp
  have hPQ : (P != P) = false := by simp
  have HA := Lib.hid hA
  have HA' := Lib.hid hA'
  clear hA hA' hW hW' hl hl' hn hn' hk60 hk60' ho hk hi ho' hk' hi' hP hP0
  unfold vec at *
  go_enter Try.func4, Try.ntmps4
  have Hx0 := Lib.hid ((Blk.new w 30 #[.slice A n c, .int .i64 off, .int .i64 k, .int .i64 inc]).alloc (.cells #[.slice A' n' c', .int .i64 off', .int .i64 k', .int .i64 inc'] 30))
  have Hy0 := Lib.hid (Blk.new_ (w.alloc (.cells #[.slice A n c, .int .i64 off, .int .i64 k, .int .i64 inc] 30)) 30 #[.slice A' n' c', .int .i64 off', .int .i64 k', .int .i64 inc'] (w.heap.size + 1) (by simp))
  have HB0 := Lib.hid (((Below.refl w.heap.size w).alloc (Nat.le_refl _) (.cells #[.slice A n c, .int .i64 off, .int .i64 k, .int .i64 inc] 30)).alloc (by simp) (.cells #[.slice A' n' c', .int .i64 off', .int .i64 k', .int .i64 inc'] 30))
  obtain ⟨x0, x1, x2, x3⟩ := cells4w Hx0.out
  obtain ⟨y0, y1, y2, y3⟩ := cells4w Hy0.out
  go_wp2_with fail
  refine (awake6_any _).mono ?_
  rintro e w1 ⟨rfl, hb⟩
  have Hx1 := Lib.hid (Hx0.out.nxt hb)
  have Hy1 := Lib.hid (Hy0.out.nxt hb)
  have HB1 := Lib.hid (below_nx HB0.out hb)
  clear hb
  clear x0 x1 x2 x3 y0 y1 y2 y3
  obtain ⟨x0, x1, x2, x3⟩ := cells4w Hx1.out
  obtain ⟨y0, y1, y2, y3⟩ := cells4w Hy1.out
  go_wp2_with fail
  refine (HLg.out _).mono ?_
  rintro e w2 ⟨rfl, hb⟩
  have Hx2 := Lib.hid (Hx1.out.nxt hb)
  have Hy2 := Lib.hid (Hy1.out.nxt hb)
  have HB2 := Lib.hid (below_nx HB1.out hb)
  clear hb
  clear x0 x1 x2 x3 y0 y1 y2 y3
  obtain ⟨x0, x1, x2, x3⟩ := cells4w Hx2.out
  obtain ⟨y0, y1, y2, y3⟩ := cells4w Hy2.out
  go_wp2_with fail
  refine (HLg'.out _).mono ?_
  rintro e w3 ⟨rfl, hb⟩
  have Hx3 := Lib.hid (Hx2.out.nxt hb)
  have Hy3 := Lib.hid (Hy2.out.nxt hb)
  have HB3 := Lib.hid (below_nx HB2.out hb)
  clear hb
  clear x0 x1 x2 x3 y0 y1 y2 y3
  obtain ⟨x0, x1, x2, x3⟩ := cells4w Hx3.out
  obtain ⟨y0, y1, y2, y3⟩ := cells4w Hy3.out
  obtain ⟨f0, _, _, _⟩ := frozen4w Hy3.out
  go_upto_region 7 with fail
  have hb9 : Blk (w3.setCell ⟨w.heap.size + 1, 0, none⟩ (.slice A n c)) (w.heap.size + 1) 30 #[.slice A n c, .int .i64 off', .int .i64 k', .int .i64 inc'] := by simpa using Hy3.out.set_ 0 (.slice A n c)
  have Hx4 := Lib.hid (Hx3.out.other (p := ⟨w.heap.size + 1, 0, none⟩) ((by simp)) (.slice A n c))
  have Hy4 := Lib.hid hb9
  have HB4 := Lib.hid (HB3.out.setCell (p := ⟨w.heap.size + 1, 0, none⟩) ((by simp)) (.slice A n c))
  clear x0 x1 x2 x3 y0 y1 y2 y3
  clear hb9 f0
  generalize (w3.setCell ⟨w.heap.size + 1, 0, none⟩ (.slice A n c)) = w4 at *
  obtain ⟨x0, x1, x2, x3⟩ := cells4w Hx4.out
  obtain ⟨y0, y1, y2, y3⟩ := cells4w Hy4.out
  go_wp2_with fail
  refine wp_region_inv [27, 28, 29, 30, 9, 10] (fun d s W => (d 0 = true → s 27 = .agg #[.slice A n c, .int .i64 off, .int .i64 k, .int .i64 inc]) ∧ (d 2 = true → s 29 = .agg #[.slice A n c, .int .i64 off', .int .i64 k', .int .i64 inc']) ∧ Twn w4.heap.size (fun cs => cs.toList.take (l).length = f64s l) (fun cs => cs.toList.take (l).length = f64s l) (fun g c => .agg #[.slice (some ⟨g, 0, none⟩) n c, .int .i64 off, .int .i64 k, .int .i64 inc]) (fun g c => .agg #[.slice (some ⟨g, 0, none⟩) n c, .int .i64 off', .int .i64 k', .int .i64 inc']) (d 1) (d 3) (s 28) (s 30) W ∧
    Two w4 30 #[.slice none 0 0, .int .i64 0, .int .i64 0, .int .i64 0] (cellsV (s 28)) (cellsV (s 30)) (d 4) (d 5) (d 6) (d 7) (s 9) (s 10) W ∧ (d 6 = true → d 4 = true ∧ d 1 = true) ∧ (d 7 = true → d 5 = true ∧ d 3 = true) ∧ (d 3 = true → d 1 = true))
    rfl (by kernel_rfl) ?_ ?_ ?_
  · exact ⟨by simp, by simp, fun h => by simp at h, ⟨(Below.refl _ _).drew, by simp, by simp, by simp⟩, by simp, by simp, by simp⟩
  · refine ⟨?_, ?_, ?_, ?_, ?_, ?_, ?_, ?_, trivial⟩
    all_goals
      intro d s W hJ hfr hd hdep
      simp only [List.mem_cons, forall_eq_or_imp, List.not_mem_nil, false_implies, implies_true, and_true, Region.binds] at hdep
      have f0 := hfr 5 (by decide)
      have f1 := hfr 6 (by decide)
      simp at f0 f1 hdep
      obtain ⟨h0, h2, hTw, hT, hx, hy, hv⟩ := hJ
      unfold OpSteps
    · obtain ⟨p0, p1, p2, p3⟩ := cells4w (Hx4.out.below hT.1 Hx4.out.lt)
      simp [go_sem, evS, f0, p0, p1, p2, p3]
      exact ⟨fun _ => by simp [sput], fun h => by simpa [sput] using h2 (by simpa [did] using h), by simpa [sput, did] using hTw, by simpa [sput, did] using hT, fun h => by simpa [did] using hx (by simpa [did] using h), fun h => by simpa [did] using hy (by simpa [did] using h), fun h => by simpa [did] using hv (by simpa [did] using h)⟩
    · have g0 := h0 (by simpa using hdep)
      have hd3 : d 3 = false := by
        cases h : d 3
        · rfl
        · have := hv h; rw [hd] at this; cases this
      have hd6 : d 6 = false := by
        cases h : d 6
        · rfl
        · have := (hx h).2; rw [hd] at this; cases this
      simp [go_sem, evS, g0]
      refine (HAx.out W (below_nx HB4.out hT.1)).mono ?_
      rintro e W' ⟨g, c9, rfl, ho, hg, hb⟩
      refine ⟨_, rfl, ?_⟩
      have hT2 := hT.nxt hb
      rw [hd6] at hT2
      have hT2 := hT2.chg1 (a' := cellsV (.agg #[.slice (some ⟨g, 0, none⟩) n c9, .int .i64 off, .int .i64 k, .int .i64 inc]))
      have hTw2 := Twn.first (Z := w4.heap.size) (S := (fun cs => cs.toList.take (l).length = f64s l)) (S' := (fun cs => cs.toList.take (l).length = f64s l)) (f := (fun g c => .agg #[.slice (some ⟨g, 0, none⟩) n c, .int .i64 off, .int .i64 k, .int .i64 inc])) (f' := (fun g c => .agg #[.slice (some ⟨g, 0, none⟩) n c, .int .i64 off', .int .i64 k', .int .i64 inc'])) (d3 := false) (vb := s 30) (c := c9) ho (Nat.le_trans hT.1.size hg) rfl
      exact ⟨fun h => by simpa [sput] using h0 (by simpa [did] using h), fun h => by simpa [sput] using h2 (by simpa [did] using h), by simpa [sput, did, hd3] using hTw2, by simpa [sput, did, hd6] using hT2, fun h => by simp [did, hd6] at h, fun h => by simpa [did] using hy (by simpa [did] using h), fun h => by simp [did]⟩
    · obtain ⟨p0, p1, p2, p3⟩ := cells4w (Hy4.out.below hT.1 Hy4.out.lt)
      simp [go_sem, evS, f1, p0, p1, p2, p3]
      exact ⟨fun h => by simpa [sput] using h0 (by simpa [did] using h), fun _ => by simp [sput], by simpa [sput, did] using hTw, by simpa [sput, did] using hT, fun h => by simpa [did] using hx (by simpa [did] using h), fun h => by simpa [did] using hy (by simpa [did] using h), fun h => by simpa [did] using hv (by simpa [did] using h)⟩
    · have g0 := h2 (by simpa using hdep.1)
      have hd1 : d 1 = true := by simpa using hdep.2
      have hd7 : d 7 = false := by
        cases h : d 7
        · rfl
        · have := (hy h).2; rw [hd] at this; cases this
      simp [go_sem, evS, g0]
      refine (HAy.out W (below_nx HB4.out hT.1)).mono ?_
      rintro e W' ⟨g, c9, rfl, ho, hg, hb⟩
      refine ⟨_, rfl, ?_⟩
      have hT2 := hT.nxt hb
      rw [hd7] at hT2
      have hT2 := hT2.chg2 (b' := cellsV (.agg #[.slice (some ⟨g, 0, none⟩) n c9, .int .i64 off', .int .i64 k', .int .i64 inc']))
      rw [hd1, hd] at hTw
      have hTw2 := hTw.second hb (c' := c9) ho (Nat.le_trans hT.1.size hg) hg
      exact ⟨fun h => by simpa [sput] using h0 (by simpa [did] using h), fun h => by simpa [sput] using h2 (by simpa [did] using h), by simpa [sput, did, hd1] using hTw2, by simpa [sput, did, hd7] using hT2, fun h => by simpa [did] using hx (by simpa [did] using h), fun h => by simp [did, hd7] at h, fun h => by simpa [did] using hd1⟩
    · have hd6 : d 6 = false := by
        cases h : d 6
        · rfl
        · have := (hx h).1; rw [hd] at this; cases this
      rw [hd, hd6] at hT
      have hT2 := hT.alloc1
      have hTw2 := hTw.nxt (below_one (W := W) (o := .cells #[.slice none 0 0, .int .i64 0, .int .i64 0, .int .i64 0] 30))
      simp [go_sem, evS]
      exact ⟨fun h => by simpa [sput] using h0 (by simpa [did] using h), fun h => by simpa [sput] using h2 (by simpa [did] using h), by simpa [sput, did] using hTw2, by simpa [sput, did, hd6] using hT2, fun h => by simp [did, hd6] at h, fun h => by simpa [did] using hy (by simpa [did] using h), fun h => by simpa [did] using hv (by simpa [did] using h)⟩
    · have hd7 : d 7 = false := by
        cases h : d 7
        · rfl
        · have := (hy h).1; rw [hd] at this; cases this
      rw [hd, hd7] at hT
      have hT2 := hT.alloc2
      have hTw2 := hTw.nxt (below_one (W := W) (o := .cells #[.slice none 0 0, .int .i64 0, .int .i64 0, .int .i64 0] 30))
      simp [go_sem, evS]
      exact ⟨fun h => by simpa [sput] using h0 (by simpa [did] using h), fun h => by simpa [sput] using h2 (by simpa [did] using h), by simpa [sput, did] using hTw2, by simpa [sput, did, hd7] using hT2, fun h => by simpa [did] using hx (by simpa [did] using h), fun h => by simp [did, hd7] at h, fun h => by simpa [did] using hv (by simpa [did] using h)⟩
    · have e4 : d 4 = true := by simp [hdep]
      have e1 : d 1 = true := by simp [hdep]
      have hTw0 := hTw
      obtain ⟨gg, cc, hva, hO1, hZ1, hrest⟩ := hTw e1
      rw [hd, e4] at hT
      obtain ⟨p, hp, hp2, hpB⟩ := hT.2.1 rfl
      simp only [Bool.false_eq_true, if_false] at hpB
      obtain ⟨r0, r1, r2, r3⟩ := cells4w hpB
      obtain ⟨q0, q1, q2, q3⟩ := frozen4w hpB
      rw [hp] at hT
      have hfar : ∀ k9, k9 ≠ p → _ := fun k9 (hk9 : k9 ≠ p) => heap_sets4 (w := W) hk9 (.slice (some ⟨gg, 0, none⟩) n cc) (.int .i64 off) (.int .i64 k) (.int .i64 inc)
      have hst := hpB.store4v (.slice (some ⟨gg, 0, none⟩) n cc) (.int .i64 off) (.int .i64 k) (.int .i64 inc)
      have hT2 := hT.store1 (W' := ((((W.setCell ⟨p, 0, none⟩ (.slice (some ⟨gg, 0, none⟩) n cc)).setCell ⟨p, 1, none⟩ (.int .i64 off)).setCell ⟨p, 2, none⟩ (.int .i64 k)).setCell ⟨p, 3, none⟩ (.int .i64 inc))) hfar (by rw [hva]; exact hst) (rest_sets4 _ _ _ _ _ _ _ _ _)
      have hTw2 := hTw0.far hpB (by decide) hfar
      simp [go_sem, evS, hp, hva, r0, r1, r2, r3, q0, q1, q2, q3]
      exact ⟨fun h => by simpa [sput] using h0 (by simpa [did] using h), fun h => by simpa [sput] using h2 (by simpa [did] using h), by simpa [sput, did] using hTw2, by simpa [sput, did, hp, e4] using hT2, fun _ => by simp [did, e4, e1], fun h => by simpa [did] using hy (by simpa [did] using h), fun h => by simpa [did] using hv (by simpa [did] using h)⟩
    · have e5 : d 5 = true := by simp [hdep]
      have e1 : d 3 = true := by simp [hdep]
      have hTw0 := hTw
      obtain ⟨gg0, cc0, hva0, hO1, hZ1, hrest⟩ := hTw (hv e1)
      obtain ⟨gg, cc, hva, hO2, hZ2, hne2⟩ := hrest e1
      rw [hd, e5] at hT
      obtain ⟨p, hp, hp2, hpB⟩ := hT.2.2.1 rfl
      simp only [Bool.false_eq_true, if_false] at hpB
      obtain ⟨r0, r1, r2, r3⟩ := cells4w hpB
      obtain ⟨q0, q1, q2, q3⟩ := frozen4w hpB
      rw [hp] at hT
      have hfar : ∀ k9, k9 ≠ p → _ := fun k9 (hk9 : k9 ≠ p) => heap_sets4 (w := W) hk9 (.slice (some ⟨gg, 0, none⟩) n cc) (.int .i64 off') (.int .i64 k') (.int .i64 inc')
      have hst := hpB.store4v (.slice (some ⟨gg, 0, none⟩) n cc) (.int .i64 off') (.int .i64 k') (.int .i64 inc')
      have hT2 := hT.store2 (W' := ((((W.setCell ⟨p, 0, none⟩ (.slice (some ⟨gg, 0, none⟩) n cc)).setCell ⟨p, 1, none⟩ (.int .i64 off')).setCell ⟨p, 2, none⟩ (.int .i64 k')).setCell ⟨p, 3, none⟩ (.int .i64 inc'))) hfar (by rw [hva]; exact hst) (rest_sets4 _ _ _ _ _ _ _ _ _)
      have hTw2 := hTw0.far hpB (by decide) hfar
      simp [go_sem, evS, hp, hva, r0, r1, r2, r3, q0, q1, q2, q3]
      exact ⟨fun h => by simpa [sput] using h0 (by simpa [did] using h), fun h => by simpa [sput] using h2 (by simpa [did] using h), by simpa [sput, did] using hTw2, by simpa [sput, did, hp, e5] using hT2, fun h => by simpa [did] using hx (by simpa [did] using h), fun _ => by simp [did, e5, e1], fun h => by simpa [did] using hv (by simpa [did] using h)⟩
  intro d s W hJ hd
  obtain ⟨_, _, hTw, hT, _, _, _⟩ := hJ
  obtain ⟨g1, c1, hsA, hO1, hZ1, hrest⟩ := hTw (hd 1 (by decide))
  obtain ⟨g2, c2, hsB, hO2, hZ2, hg12⟩ := hrest (hd 3 (by decide))
  obtain ⟨hb, hp, hq, hne⟩ := hT
  obtain ⟨p, hp, hp2, hpB⟩ := hp (hd 4 (by decide))
  obtain ⟨q, hq, hq2, hqB⟩ := hq (hd 5 (by decide))
  have hpq := hne (hd 4 (by decide)) (hd 5 (by decide))
  rw [hd 6 (by decide), hsA] at hpB
  rw [hd 7 (by decide), hsB] at hqB
  rw [hp, hq] at hpq
  have hpq2 : p ≠ q := fun e => hpq (by rw [e])
  simp only [if_true, cellsV] at hpB hqB
  clear hne hTw hrest hpq hd
  simp [setAll, hp, hq]
  clear hp hq hsA hsB
  generalize s 27 = s26
  generalize s 28 = s27
  generalize s 29 = s28
  generalize s 30 = s29
  have Hx5 := Lib.hid (Hx4.out.below hb Hx4.out.lt)
  have Hy5 := Lib.hid (Hy4.out.below hb Hy4.out.lt)
  have Hp5 := Lib.hid hpB
  have Hq5 := Lib.hid hqB
  have Hu5 := Lib.hid hO1
  have Hv5 := Lib.hid hO2
  have HB5 := Lib.hid (below_nx HB4.out hb)
  have Hg1g2 := Lib.hid hg12
  have hlo0 := Hy4.out.lt
  have Hpqz := Lib.hid (show w.heap.size + 1 < g1 ∧ w.heap.size + 1 < g2 ∧ w.heap.size + 1 < p ∧ w.heap.size + 1 < q by omega)
  have Hpq := Lib.hid hpq2
  clear hpB hqB hO1 hO2 hb hg12 hpq2 hZ1 hZ2 hp2 hq2 hlo0
  clear x0 x1 x2 x3 y0 y1 y2 y3
  obtain ⟨x0, x1, x2, x3⟩ := cells4w Hx5.out
  obtain ⟨y0, y1, y2, y3⟩ := cells4w Hy5.out
  obtain ⟨p0, p1, p2, p3⟩ := cells4w Hp5.out
  obtain ⟨q0, q1, q2, q3⟩ := cells4w Hq5.out
  have Hu5' := Lib.hid (show Own W g1 l from Hu5.out)
  have Hv5' := Lib.hid (show Own W g2 l from Hv5.out)
  clear Hu5 Hv5
  have Hu5 := Hu5'
  have Hv5 := Hv5'
  clear Hu5' Hv5'
  obtain ⟨f0, _, _, _⟩ := frozen4w Hq5.out
  go_upto_region 10 with fail
  have hb9 : Blk (W.setCell ⟨q, 0, none⟩ (.slice (some ⟨g1, 0, none⟩) n c1)) (q) 30 #[.slice (some ⟨g1, 0, none⟩) n c1, .int .i64 off', .int .i64 k', .int .i64 inc'] := by simpa using Hq5.out.set_ 0 (.slice (some ⟨g1, 0, none⟩) n c1)
  have Hx6 := Lib.hid (Hx5.out.other (p := ⟨q, 0, none⟩) ((by have := Hpqz.out; have := Hpq.out; simp; omega)) (.slice (some ⟨g1, 0, none⟩) n c1))
  have Hy6 := Lib.hid (Hy5.out.other (p := ⟨q, 0, none⟩) ((by have := Hpqz.out; have := Hpq.out; simp; omega)) (.slice (some ⟨g1, 0, none⟩) n c1))
  have Hp6 := Lib.hid (Hp5.out.other (p := ⟨q, 0, none⟩) ((by have := Hpqz.out; have := Hpq.out; simp; omega)) (.slice (some ⟨g1, 0, none⟩) n c1))
  have Hu6 := Lib.hid (Hu5.out.other (p := ⟨q, 0, none⟩) (own_ne Hu5.out Hq5.out (by decide)) (.slice (some ⟨g1, 0, none⟩) n c1))
  have Hv6 := Lib.hid (Hv5.out.other (p := ⟨q, 0, none⟩) (own_ne Hv5.out Hq5.out (by decide)) (.slice (some ⟨g1, 0, none⟩) n c1))
  have Hq6 := Lib.hid hb9
  have HB6 := Lib.hid (HB5.out.setCell (p := ⟨q, 0, none⟩) ((by have := Hpqz.out; have := Hpq.out; simp; omega)) (.slice (some ⟨g1, 0, none⟩) n c1))
  clear x0 x1 x2 x3 y0 y1 y2 y3 p0 p1 p2 p3 q0 q1 q2 q3
  clear hb9 f0
  generalize (W.setCell ⟨q, 0, none⟩ (.slice (some ⟨g1, 0, none⟩) n c1)) = W5 at *
  obtain ⟨x0, x1, x2, x3⟩ := cells4w Hx6.out
  obtain ⟨y0, y1, y2, y3⟩ := cells4w Hy6.out
  obtain ⟨p0, p1, p2, p3⟩ := cells4w Hp6.out
  obtain ⟨q0, q1, q2, q3⟩ := cells4w Hq6.out
  go_wp2_with fail
  refine (HAp.out _ _ _ _ Hu6.out).mono ?_
  rintro e w6 ⟨rfl, hb⟩
  have Hx7 := Lib.hid (Hx6.out.nxt hb)
  have Hy7 := Lib.hid (Hy6.out.nxt hb)
  have Hp7 := Lib.hid (Hp6.out.nxt hb)
  have Hq7 := Lib.hid (Hq6.out.nxt hb)
  have Hu7 := Lib.hid (Hu6.out.nxt hb)
  have Hv7 := Lib.hid (Hv6.out.nxt hb)
  have HB7 := Lib.hid (below_nx HB6.out hb)
  clear hb
  clear x0 x1 x2 x3 y0 y1 y2 y3 p0 p1 p2 p3 q0 q1 q2 q3
  obtain ⟨x0, x1, x2, x3⟩ := cells4w Hx7.out
  obtain ⟨y0, y1, y2, y3⟩ := cells4w Hy7.out
  obtain ⟨p0, p1, p2, p3⟩ := cells4w Hp7.out
  obtain ⟨q0, q1, q2, q3⟩ := cells4w Hq7.out
  go_wp2_with fail
  refine (HRp.out _).mono ?_
  rintro e w7 ⟨rfl, hb⟩
  have Hx8 := Lib.hid (Hx7.out.nxt hb)
  have Hy8 := Lib.hid (Hy7.out.nxt hb)
  have Hp8 := Lib.hid (Hp7.out.nxt hb)
  have Hq8 := Lib.hid (Hq7.out.nxt hb)
  have Hu8 := Lib.hid (Hu7.out.nxt hb)
  have Hv8 := Lib.hid (Hv7.out.nxt hb)
  have HB8 := Lib.hid (below_nx HB7.out hb)
  clear hb
  clear x0 x1 x2 x3 y0 y1 y2 y3 p0 p1 p2 p3 q0 q1 q2 q3
  obtain ⟨x0, x1, x2, x3⟩ := cells4w Hx8.out
  obtain ⟨y0, y1, y2, y3⟩ := cells4w Hy8.out
  obtain ⟨p0, p1, p2, p3⟩ := cells4w Hp8.out
  obtain ⟨q0, q1, q2, q3⟩ := cells4w Hq8.out
  go_wp2_with fail
  refine (HAll.out _ _ _ _ _ Hu8.out.row (HA.out.below HB8.out)).mono ?_
  rintro e w8 ⟨rfl, hb⟩
  have Hx9 := Lib.hid (Hx8.out.nxt hb)
  have Hy9 := Lib.hid (Hy8.out.nxt hb)
  have Hp9 := Lib.hid (Hp8.out.nxt hb)
  have Hq9 := Lib.hid (Hq8.out.nxt hb)
  have Hu9 := Lib.hid (Hu8.out.nxt hb)
  have Hv9 := Lib.hid (Hv8.out.nxt hb)
  have HB9 := Lib.hid (below_nx HB8.out hb)
  clear hb
  clear x0 x1 x2 x3 y0 y1 y2 y3 p0 p1 p2 p3 q0 q1 q2 q3
  obtain ⟨x0, x1, x2, x3⟩ := cells4w Hx9.out
  obtain ⟨y0, y1, y2, y3⟩ := cells4w Hy9.out
  obtain ⟨p0, p1, p2, p3⟩ := cells4w Hp9.out
  obtain ⟨q0, q1, q2, q3⟩ := cells4w Hq9.out
  go_wp2_with fail
  refine (HAll.out _ _ _ _ _ Hu9.out.row (HA.out.below HB9.out)).mono ?_
  rintro e w9 ⟨rfl, hb⟩
  have Hx10 := Lib.hid (Hx9.out.nxt hb)
  have Hy10 := Lib.hid (Hy9.out.nxt hb)
  have Hp10 := Lib.hid (Hp9.out.nxt hb)
  have Hq10 := Lib.hid (Hq9.out.nxt hb)
  have Hu10 := Lib.hid (Hu9.out.nxt hb)
  have Hv10 := Lib.hid (Hv9.out.nxt hb)
  have HB10 := Lib.hid (below_nx HB9.out hb)
  clear hb
  clear x0 x1 x2 x3 y0 y1 y2 y3 p0 p1 p2 p3 q0 q1 q2 q3
  obtain ⟨x0, x1, x2, x3⟩ := cells4w Hx10.out
  obtain ⟨y0, y1, y2, y3⟩ := cells4w Hy10.out
  obtain ⟨p0, p1, p2, p3⟩ := cells4w Hp10.out
  obtain ⟨q0, q1, q2, q3⟩ := cells4w Hq10.out
  go_wp2_with fail
  refine (awake6_any _).mono ?_
  rintro e w10 ⟨rfl, hb⟩
  have Hx11 := Lib.hid (Hx10.out.nxt hb)
  have Hy11 := Lib.hid (Hy10.out.nxt hb)
  have Hp11 := Lib.hid (Hp10.out.nxt hb)
  have Hq11 := Lib.hid (Hq10.out.nxt hb)
  have Hu11 := Lib.hid (Hu10.out.nxt hb)
  have Hv11 := Lib.hid (Hv10.out.nxt hb)
  have HB11 := Lib.hid (below_nx HB10.out hb)
  clear hb
  clear x0 x1 x2 x3 y0 y1 y2 y3 p0 p1 p2 p3 q0 q1 q2 q3
  obtain ⟨x0, x1, x2, x3⟩ := cells4w Hx11.out
  obtain ⟨y0, y1, y2, y3⟩ := cells4w Hy11.out
  obtain ⟨p0, p1, p2, p3⟩ := cells4w Hp11.out
  obtain ⟨q0, q1, q2, q3⟩ := cells4w Hq11.out
  go_wp2_with fail
  go_ret
  exact ⟨rfl, HB11.out⟩
end Go.Proofs.Ytjjneiidggcfdaa
set_option linter.unusedVariables false
namespace Go.Proofs.Ytjjneiidggcfdaa
open Go.RowKit

/-- The value is a slice that reads as the list. -/
def SlR (W : World) (v : Value) (n : Nat) (X : List Nat) : Prop := ∃ B d, v = .slice B n d ∧ Row W B (f64s X)
theorem SlR.below {W W' : World} {v : Value} {n : Nat} {X : List Nat} (h : SlR W v n X) (hb : Below W.heap.size W W') : SlR W' v n X := by
  obtain ⟨B, d, e, r⟩ := h
  exact ⟨B, d, e, r.below hb⟩
/-- The value is a slice of n numbers of which this holds. -/
def SlM (W : World) (v : Value) (n : Nat) (R : Nat → Nat → Prop) : Prop := ∃ m : List Nat, m.length = n ∧ (∀ q, q < n → R q (m.getD q 0)) ∧ SlR W v n m
theorem SlM.below {W W' : World} {v : Value} {n : Nat} {R : Nat → Nat → Prop} (h : SlM W v n R) (hb : Below W.heap.size W W') : SlM W' v n R := by
  obtain ⟨m, e, f, r⟩ := h
  exact ⟨m, e, f, r.below hb⟩
/-- The value is a slice of a list of its own of which this holds. -/
def SlO (W : World) (v : Value) (n : Nat) (S : List Nat → Prop) : Prop := ∃ g c m, v = .slice (some ⟨g, 0, none⟩) n c ∧ S m ∧ Own W g m
theorem SlO.below {W W' : World} {v : Value} {n : Nat} {S : List Nat → Prop} (h : SlO W v n S) (hb : Below W.heap.size W W') : SlO W' v n S := by
  obtain ⟨g, c, m, e, f, r⟩ := h
  exact ⟨g, c, m, e, f, r.nxt hb⟩
end Go.Proofs.Ytjjneiidggcfdaa
set_option linter.unusedVariables false
namespace Go.Proofs.Ytjjneiidggcfdaa
open Go.RowKit
attribute [local go_sem ↓] Go.wp_at_zero Go.wp_at_succ

def RetF (w : World) (n : Nat) (l : List Nat) (e : Ending) (w' : World) : Prop := ∃ g c', e = .returned (.slice (some ⟨g, 0, none⟩) n c') ∧ Own w' g l ∧ w.heap.size ≤ g ∧ Below w.heap.size w w'
theorem RetF.mk {w w' : World} {n g c' : Nat} {l : List Nat} {e : Ending} (h : e = .returned (.slice (some ⟨g, 0, none⟩) n c')) (h1 : Own w' g l) (h2 : w.heap.size ≤ g) (h3 : Below w.heap.size w w') : RetF w n l e w' := ⟨g, c', h, h1, h2, h3⟩
theorem rwrite_nil (c : Nat) (o i : Nat) (B : Option Addr) (d : Nat) (w : World) :
    Calls Try.prog 27 #[vec none 0 c o (0 : Nat) i, .slice B 0 d] w (RetF w 0 []) := by
  unfold vec
  go_enter Try.func27, Try.ntmps27
  go_wp2_with (at_builtin; refine wpList_append_nil _ rfl _ _ rfl rfl _ _ rfl rfl ?_)
  intro w' g c' hw' hg hc'
  have HB := Lib.hid (show Below w.heap.size w w' by rw [hw']; exact ((Below.refl w.heap.size w).alloc (Nat.le_refl _) (.cells #[.slice none 0 c, .int .i64 o, .int .i64 (0 : Nat), .int .i64 i] 30)).alloc (by simp) (.cells #[] 25))
  have H0 := Lib.hid (show Blk w' w.heap.size 30 #[.slice none 0 c, .int .i64 o, .int .i64 (0 : Nat), .int .i64 i] by rw [hw']; exact (Blk.new w 30 #[.slice none 0 c, .int .i64 o, .int .i64 (0 : Nat), .int .i64 i]).alloc (.cells #[] 25))
  have HO := Lib.hid (show Own w' g [] by rw [hw']; exact ⟨#[], Blk.new_ _ _ _ _ (by simp; omega), rfl⟩)
  have hg2 : w.heap.size ≤ g := by omega
  clear hw' hg hc'
  obtain ⟨k0, k1, k2, k3⟩ := cells4w H0.out
  go_wp2_with fail
  go_loop [6] (fun a => a = .int .i64 0) (fun a => 0)
  case atStart => rfl
  case round =>
    subst hrel
    go_wp2_with fail
    go_ret
    exact RetF.mk rfl HO.out hg2 HB.out

theorem rwrite_any (A : Option Addr) (n c : Nat) (l : List Nat) (o K i : Nat) (B : Option Addr) (d : Nat) (m : List Nat) (w : World) (hA : Row w A (f64s l)) (hl : l.length = n) (hn : n < 1048576) (hi1 : 1 ≤ i) (hr : K = 0 ∨ o + (K - 1) * i < n) (hB : Row w B (f64s m)) (hm : m.length = K) :
    Calls Try.prog 27 #[vec A n c o K i, .slice B K d] w fun e w' => ∃ g c', e = .returned (.slice (some ⟨g, 0, none⟩) n c') ∧ Own w' g (wrt l o i m K) ∧ w.heap.size ≤ g ∧ Below w.heap.size w w' := by
  cases A with
  | some a => exact rwrite_some a n c l o K i B d m w hA hl hn hi1 hr hB hm
  | none =>
    rcases hA with h | ⟨b, o', h, _⟩
    · obtain rfl : l = [] := by simpa [f64s] using h
      subst hl
      have hK : K = 0 := by
        rcases hr with h | h
        · exact h
        · simp at h
      subst hK
      exact rwrite_nil c o i B d w
    · cases h

theorem wds_set {l : List Nat} (h : Wds l) {v : Nat} (hv : v < 18446744073709551616) (p : Nat) : Wds (l.set p v) := by
  intro b hb
  rcases List.mem_or_eq_of_mem_set hb with h1 | h1
  · exact h b h1
  · subst h1; exact hv
theorem wds_getD {l : List Nat} (h : Wds l) (p : Nat) : l.getD p 0 < 18446744073709551616 := by
  rcases Nat.lt_or_ge p l.length with hl | hl
  · rw [getD_of_lt hl]; exact h _ (List.getElem_mem hl)
  · rw [getD_of_le hl]; decide
theorem wds_wrt {l q : List Nat} (h : Wds l) (hq : Wds q) (o i : Nat) : ∀ K, Wds (wrt l o i q K)
  | 0 => h
  | K + 1 => wds_set (wds_wrt h hq o i K) (wds_getD hq K) _

end Go.Proofs.Ytjjneiidggcfdaa
set_option linter.unusedVariables false
set_option linter.unusedSimpArgs false
set_option linter.unnecessarySimpa false
namespace Go.Proofs.Ytjjneiidggcfdaa
open Go.RowKit
attribute [local go_sem ↓] Go.wp_at_zero Go.wp_at_succ


theorem alike_set {x y : List Nat} (h : Alike x y) (i a b : Nat) (hab : sameB a b = true) : Alike (x.set i a) (y.set i b) := by
  refine ⟨by rw [List.length_set, List.length_set]; exact h.1, fun j hj hj' => ?_⟩
  by_cases e : i = j
  · subst e
    rw [List.getElem_set_self, List.getElem_set_self]
    exact hab
  · rw [List.getElem_set_ne e, List.getElem_set_ne e]
    exact h.2 j _ _
theorem alike_wrt (l : List Nat) (o i : Nat) {m m' : List Nat} : ∀ K, (∀ q, q < K → sameB (m.getD q 0) (m'.getD q 0) = true) → Alike (wrt l o i m K) (wrt l o i m' K)
  | 0, _ => Alike.refl l
  | K + 1, h => alike_set (alike_wrt l o i (m := m) (m' := m') K (fun q hq => h q (by omega))) (o + K * i) _ _ (h K (by omega))
theorem wds_of {m : List Nat} {K : Nat} (hm : m.length = K) (h : ∀ q, q < K → m.getD q 0 < 18446744073709551616) : Wds m := by
  intro b hb
  obtain ⟨j, hj, rfl⟩ := List.getElem_of_mem hb
  have := h j (by omega)
  rwa [getD_of_lt hj] at this
theorem AxR.lt {a : Nat} {l : List Nat} {o i : Nat} {l' : List Nat} {o' i' q r : Nat} (h : AxR a l o i l' o' i' q r) : r < 18446744073709551616 := by
  obtain ⟨p, _, h2⟩ := h; exact h2.1
theorem AxQ.lt {a : Nat} {l l' : List Nat} {q r : Nat} (h : AxQ a l l' q r) : r < 18446744073709551616 := by
  obtain ⟨p, _, h2⟩ := h; exact h2.1
theorem ax_same {a : Nat} (ha : a < 18446744073709551616) {l l' : List Nat} (hW : Wds l) (hW' : Wds l') {o i o' i' K q r r' : Nat} (hq : q < K) (h : AxR a l' o' i' l o i q r) (h' : AxQ a (lst l o i K) (lst l' o' i' K) q r') : sameB r r' = true := by
  obtain ⟨p, h1, h2⟩ := h
  obtain ⟨p', k1, k2⟩ := h'
  rw [lst_getD l o i hq] at k1
  rw [lst_getD l' o' i' hq] at k2
  have w1 := getD_wds hW (o + q * i)
  have w2 := getD_wds hW' (o' + q * i')
  have e1 := h2.is_ (Is.refl w2) (h1.is_ (Is.refl ha) (Is.refl w1))
  have e2 := k2.is_ (Is.refl w2) (k1.is_ (Is.refl ha) (Is.refl w1))
  exact e1.same e2

set_option maxRecDepth 100000 in
set_option maxHeartbeats 4000000 in
theorem axesAdd_ok2 (a : Nat) (A : Option Addr) (n c : Nat) (l : List Nat) (off k inc : Int) (A' : Option Addr) (n' c' : Nat) (l' : List Nat) (off' k' inc' : Int) (w : World) (hA : Row w A (f64s l)) (hA' : Row w A' (f64s l')) (hW : Wds l) (hW' : Wds l') (hl : l.length = n) (hl' : l'.length = n') (hn : n ≤ 1000) (hn' : n' ≤ 1000) (hk60 : k ≤ 60) (hk60' : k' ≤ 60) (ho : I64 off) (hk : I64 k) (hi : I64 inc) (ho' : I64 off') (hk' : I64 k') (hi' : I64 inc') (ha : a < 18446744073709551616) (hP : pairI false n' off' k' inc' n off k inc = 0) (o K i o' i' : Nat) (q1 : off = o) (q2 : k = K) (q3 : inc = i) (q4 : off' = o') (q5 : k' = K) (q6 : inc' = i') (hi1 : 1 ≤ i) (hi1' : 1 ≤ i') (hr : K = 0 ∨ o + (K - 1) * i < n) (hr' : K = 0 ∨ o' + (K - 1) * i' < n') :
    Calls Try.prog 4 #[.float .f64 a, vec A n c off k inc, vec A' n' c' off' k' inc', .bool false] w fun e w' => e = .returned (.bool true) ∧ Below w.heap.size w w' := by
  have HLg := Lib.hid (fun W => long_any A n c off k inc W)
  have HLg' := Lib.hid (fun W => long_any A' n' c' off' k' inc' W)
  rw [show longB n k = false by unfold longB; simp; omega] at HLg
  rw [show longB n' k' = false by unfold longB; simp; omega] at HLg'
  have HAx := Lib.hid (fun W (hb : Below w.heap.size w W) => show Calls Try.prog 23 #[vec A n c off k inc] W fun e w' => ∃ g c', e = .returned (vec (some ⟨g, 0, none⟩) n c' off k inc) ∧ OwnS w' (fun cs => cs.toList.take (l).length = f64s l) g ∧ W.heap.size ≤ g ∧ Below W.heap.size W w' from by
    have := ralone_any A c l off k inc W (hA.below hb) (by omega)
    rw [hl] at this
    exact this.mono fun e w' ⟨g, c', e1, e2, e3, _, _, e4⟩ => ⟨g, c', e1, e2, e3, e4⟩)

  have HAy := Lib.hid (fun W (hb : Below w.heap.size w W) => show Calls Try.prog 23 #[vec A' n' c' off' k' inc'] W fun e w' => ∃ g c', e = .returned (vec (some ⟨g, 0, none⟩) n' c' off' k' inc') ∧ OwnS w' (fun cs => cs.toList.take (l').length = f64s l') g ∧ W.heap.size ≤ g ∧ Below W.heap.size W w' from by
    have := ralone_any A' c' l' off' k' inc' W (hA'.below hb) (by omega)
    rw [hl'] at this
    exact this.mono fun e w' ⟨g, c', e1, e2, e3, _, _, e4⟩ => ⟨g, c', e1, e2, e3, e4⟩)

  have HRp := Lib.hid (fun W => show Calls Try.prog 25 #[vec A' n' c' off' k' inc', vec A n c off k inc, .bool false] W fun e w' => e = .returned (.int .i64 0) ∧ Below W.heap.size W w' from by
    have := rpair_any A' A n' c' off' k' inc' n c off k inc false W (by omega) (by omega) ho' hk' hi' ho hk hi
    rw [hP] at this; exact this)
  have HAp := Lib.hid (fun W (g g' c c' : Nat) (hne : g' ≠ g) (hO : Own W g l) (hO' : Own W g' l') => show Calls Try.prog 24 #[.float .f64 a, vec (some ⟨g, 0, none⟩) n c off k inc, vec (some ⟨g', 0, none⟩) n' c' off' k' inc'] W fun e w' => e = .returned (.int .i64 0) ∧
      ∃ m : List Nat, m.length = K ∧ (∀ q, q < K → AxR a l' o' i' l o i q (m.getD q 0)) ∧ Own w' g' (wrt l' o' i' m K) ∧ Chg [g'] W w' from by
    subst q1 q2 q3 q4 q5 q6
    exact axpy_ok a g' g c' c l' l n' n o' K i' o i W hO' hO hl' hl (by omega) (by omega) hi1' hr' hr ho' hk hi' ho hi (by rw [show decide (g' = g) = false from decide_eq_false hne]; exact hP) (fun e => (hne e).elim))
  obtain ⟨X, hX⟩ : ∃ X, lst l o i K = X := ⟨_, rfl⟩
  obtain ⟨Y, hY⟩ : ∃ Y, lst l' o' i' K = Y := ⟨_, rfl⟩
  have hXl : X.length = K := by rw [← hX, lst_length]
  have hYl : Y.length = K := by rw [← hY, lst_length]
  have HLx := Lib.hid (fun W (hb : Below w.heap.size w W) => show Calls Try.prog 29 #[vec A n c off k inc] W fun e w' => ∃ B d, e = .returned (.slice B K d) ∧ Row w' B (f64s X) ∧ Below W.heap.size W w' from by
    subst q1 q2 q3
    rw [← hX]
    exact rlist_any A n c l o K i W (hA.below hb) hl (by omega) hr (by omega))
  have HLy := Lib.hid (fun W (hb : Below w.heap.size w W) => show Calls Try.prog 29 #[vec A' n' c' off' k' inc'] W fun e w' => ∃ B d, e = .returned (.slice B K d) ∧ Row w' B (f64s Y) ∧ Below W.heap.size W w' from by
    subst q4 q5 q6
    rw [← hY]
    exact rlist_any A' n' c' l' o' K i' W (hA'.below hb) hl' (by omega) hr' (by omega))

  have HRa := Lib.hid (fun W (B1 B2 : Option Addr) (d1 d2 : Nat) (h1 : Row W B1 (f64s X)) (h2 : Row W B2 (f64s Y)) => raxpy_any a B1 B2 K K d1 d2 X Y W h1 h2 hXl hYl (Nat.le_refl _) (by omega))
  have HWr := Lib.hid (fun W (hb : Below w.heap.size w W) (B : Option Addr) (d : Nat) (m : List Nat) (hm : m.length = K) (hB : Row W B (f64s m)) => show Calls Try.prog 27 #[vec A' n' c' off' k' inc', .slice B K d] W fun e w' => ∃ g c', e = .returned (.slice (some ⟨g, 0, none⟩) n' c') ∧ Own w' g (wrt l' o' i' m K) ∧ W.heap.size ≤ g ∧ Below W.heap.size W w' from by
    subst q4 q5 q6
    exact rwrite_any A' n' c' l' o' K i' B d m W (hA'.below hb) hl' (by omega) hi1' hr' hB hm)
  have HFin := Lib.hid (fun W (A B : Option Addr) (c d : Nat) (m m' : List Nat) (hm : m.length = K) (hR : ∀ q, q < K → AxR a l' o' i' l o i q (m.getD q 0)) (hm' : m'.length = K) (hR' : ∀ q, q < K → AxQ a X Y q (m'.getD q 0)) (h1 : Row W A (f64s (wrt l' o' i' m K))) (h2 : Row W B (f64s (wrt l' o' i' m' K))) =>
    show Calls Try.prog 26 #[.slice A n' c, .slice B n' d] W fun e w' => e = .returned (.bool true) ∧ Below W.heap.size W w' from by
      have hal := alike_wrt l' o' i' (m := m) (m' := m') K (fun q hq => ax_same ha hW hW' hq (hR q hq) (by rw [hX, hY]; exact hR' q hq))
      have := rall_any A B c d _ _ W (wds_wrt hW' (wds_of hm (fun q hq => (hR q hq).lt)) _ _ _) (wds_wrt hW' (wds_of hm' (fun q hq => (hR' q hq).lt)) _ _ _) h1 h2 (by rw [wrt_length]; omega) hal
      rw [wrt_length, wrt_length, hl'] at this
      exact this)
  have HAll := Lib.hid (fun W (A B : Option Addr) (c d : Nat) (h1 : Row W A (f64s l)) (h2 : Row W B (f64s l)) => show Calls Try.prog 26 #[.slice A n c, .slice B n d] W fun e w' => e = .returned (.bool true) ∧ Below W.heap.size W w' from by
    have := rall_any A B c d l l W hW hW h1 h2 (by omega) (Alike.refl l)
    rw [hl] at this; exact this)

  have HA := Lib.hid hA
  have HA' := Lib.hid hA'
  clear hA hA' hW hW' hl hl' hn hn' hk60 hk60' ho hk hi ho' hk' hi' hP ha q1 q2 q3 q4 q5 q6 hi1 hi1' hr hr' hX hY hXl hYl
  unfold vec at *
  go_enter Try.func4, Try.ntmps4
  have Hx0 := Lib.hid ((Blk.new w 30 #[.slice A n c, .int .i64 off, .int .i64 k, .int .i64 inc]).alloc (.cells #[.slice A' n' c', .int .i64 off', .int .i64 k', .int .i64 inc'] 30))
  have Hy0 := Lib.hid (Blk.new_ (w.alloc (.cells #[.slice A n c, .int .i64 off, .int .i64 k, .int .i64 inc] 30)) 30 #[.slice A' n' c', .int .i64 off', .int .i64 k', .int .i64 inc'] (w.heap.size + 1) (by simp))
  have HB0 := Lib.hid (((Below.refl w.heap.size w).alloc (Nat.le_refl _) (.cells #[.slice A n c, .int .i64 off, .int .i64 k, .int .i64 inc] 30)).alloc (by simp) (.cells #[.slice A' n' c', .int .i64 off', .int .i64 k', .int .i64 inc'] 30))
  obtain ⟨x0, x1, x2, x3⟩ := cells4w Hx0.out
  obtain ⟨y0, y1, y2, y3⟩ := cells4w Hy0.out
  go_wp2_with fail
  refine (awake6_any _).mono ?_
  rintro e w1 ⟨rfl, hb⟩
  have Hx1 := Lib.hid (Hx0.out.nxt hb)
  have Hy1 := Lib.hid (Hy0.out.nxt hb)
  have HB1 := Lib.hid (below_nx HB0.out hb)
  clear hb
  clear x0 x1 x2 x3 y0 y1 y2 y3
  obtain ⟨x0, x1, x2, x3⟩ := cells4w Hx1.out
  obtain ⟨y0, y1, y2, y3⟩ := cells4w Hy1.out
  go_wp2_with fail
  refine (HLg.out _).mono ?_
  rintro e w2 ⟨rfl, hb⟩
  have Hx2 := Lib.hid (Hx1.out.nxt hb)
  have Hy2 := Lib.hid (Hy1.out.nxt hb)
  have HB2 := Lib.hid (below_nx HB1.out hb)
  clear hb
  clear x0 x1 x2 x3 y0 y1 y2 y3
  obtain ⟨x0, x1, x2, x3⟩ := cells4w Hx2.out
  obtain ⟨y0, y1, y2, y3⟩ := cells4w Hy2.out
  go_wp2_with fail
  refine (HLg'.out _).mono ?_
  rintro e w3 ⟨rfl, hb⟩
  have Hx3 := Lib.hid (Hx2.out.nxt hb)
  have Hy3 := Lib.hid (Hy2.out.nxt hb)
  have HB3 := Lib.hid (below_nx HB2.out hb)
  clear hb
  clear x0 x1 x2 x3 y0 y1 y2 y3
  obtain ⟨x0, x1, x2, x3⟩ := cells4w Hx3.out
  obtain ⟨y0, y1, y2, y3⟩ := cells4w Hy3.out
  go_wp2_with fail
  refine wp_region_inv [27, 28, 29, 30, 9, 10] (fun d s W => (d 0 = true → s 27 = .agg #[.slice A n c, .int .i64 off, .int .i64 k, .int .i64 inc]) ∧ (d 2 = true → s 29 = .agg #[.slice A' n' c', .int .i64 off', .int .i64 k', .int .i64 inc']) ∧ Twn w3.heap.size (fun cs => cs.toList.take (l).length = f64s l) (fun cs => cs.toList.take (l').length = f64s l') (fun g c => .agg #[.slice (some ⟨g, 0, none⟩) n c, .int .i64 off, .int .i64 k, .int .i64 inc]) (fun g c => .agg #[.slice (some ⟨g, 0, none⟩) n' c, .int .i64 off', .int .i64 k', .int .i64 inc']) (d 1) (d 3) (s 28) (s 30) W ∧
    Two w3 30 #[.slice none 0 0, .int .i64 0, .int .i64 0, .int .i64 0] (cellsV (s 28)) (cellsV (s 30)) (d 4) (d 5) (d 6) (d 7) (s 9) (s 10) W ∧ (d 6 = true → d 4 = true ∧ d 1 = true) ∧ (d 7 = true → d 5 = true ∧ d 3 = true) ∧ (d 3 = true → d 1 = true))
    rfl (by kernel_rfl) ?_ ?_ ?_
  · exact ⟨by simp, by simp, fun h => by simp at h, ⟨(Below.refl _ _).drew, by simp, by simp, by simp⟩, by simp, by simp, by simp⟩
  · refine ⟨?_, ?_, ?_, ?_, ?_, ?_, ?_, ?_, trivial⟩
    all_goals
      intro d s W hJ hfr hd hdep
      simp only [List.mem_cons, forall_eq_or_imp, List.not_mem_nil, false_implies, implies_true, and_true, Region.binds] at hdep
      have f0 := hfr 5 (by decide)
      have f1 := hfr 6 (by decide)
      simp at f0 f1 hdep
      obtain ⟨h0, h2, hTw, hT, hx, hy, hv⟩ := hJ
      unfold OpSteps
    · obtain ⟨p0, p1, p2, p3⟩ := cells4w (Hx3.out.below hT.1 Hx3.out.lt)
      simp [go_sem, evS, f0, p0, p1, p2, p3]
      exact ⟨fun _ => by simp [sput], fun h => by simpa [sput] using h2 (by simpa [did] using h), by simpa [sput, did] using hTw, by simpa [sput, did] using hT, fun h => by simpa [did] using hx (by simpa [did] using h), fun h => by simpa [did] using hy (by simpa [did] using h), fun h => by simpa [did] using hv (by simpa [did] using h)⟩
    · have g0 := h0 (by simpa using hdep)
      have hd3 : d 3 = false := by
        cases h : d 3
        · rfl
        · have := hv h; rw [hd] at this; cases this
      have hd6 : d 6 = false := by
        cases h : d 6
        · rfl
        · have := (hx h).2; rw [hd] at this; cases this
      simp [go_sem, evS, g0]
      refine (HAx.out W (below_nx HB3.out hT.1)).mono ?_
      rintro e W' ⟨g, c9, rfl, ho, hg, hb⟩
      refine ⟨_, rfl, ?_⟩
      have hT2 := hT.nxt hb
      rw [hd6] at hT2
      have hT2 := hT2.chg1 (a' := cellsV (.agg #[.slice (some ⟨g, 0, none⟩) n c9, .int .i64 off, .int .i64 k, .int .i64 inc]))
      have hTw2 := Twn.first (Z := w3.heap.size) (S := (fun cs => cs.toList.take (l).length = f64s l)) (S' := (fun cs => cs.toList.take (l').length = f64s l')) (f := (fun g c => .agg #[.slice (some ⟨g, 0, none⟩) n c, .int .i64 off, .int .i64 k, .int .i64 inc])) (f' := (fun g c => .agg #[.slice (some ⟨g, 0, none⟩) n' c, .int .i64 off', .int .i64 k', .int .i64 inc'])) (d3 := false) (vb := s 30) (c := c9) ho (Nat.le_trans hT.1.size hg) rfl
      exact ⟨fun h => by simpa [sput] using h0 (by simpa [did] using h), fun h => by simpa [sput] using h2 (by simpa [did] using h), by simpa [sput, did, hd3] using hTw2, by simpa [sput, did, hd6] using hT2, fun h => by simp [did, hd6] at h, fun h => by simpa [did] using hy (by simpa [did] using h), fun h => by simp [did]⟩
    · obtain ⟨p0, p1, p2, p3⟩ := cells4w (Hy3.out.below hT.1 Hy3.out.lt)
      simp [go_sem, evS, f1, p0, p1, p2, p3]
      exact ⟨fun h => by simpa [sput] using h0 (by simpa [did] using h), fun _ => by simp [sput], by simpa [sput, did] using hTw, by simpa [sput, did] using hT, fun h => by simpa [did] using hx (by simpa [did] using h), fun h => by simpa [did] using hy (by simpa [did] using h), fun h => by simpa [did] using hv (by simpa [did] using h)⟩
    · have g0 := h2 (by simpa using hdep.1)
      have hd1 : d 1 = true := by simpa using hdep.2
      have hd7 : d 7 = false := by
        cases h : d 7
        · rfl
        · have := (hy h).2; rw [hd] at this; cases this
      simp [go_sem, evS, g0]
      refine (HAy.out W (below_nx HB3.out hT.1)).mono ?_
      rintro e W' ⟨g, c9, rfl, ho, hg, hb⟩
      refine ⟨_, rfl, ?_⟩
      have hT2 := hT.nxt hb
      rw [hd7] at hT2
      have hT2 := hT2.chg2 (b' := cellsV (.agg #[.slice (some ⟨g, 0, none⟩) n' c9, .int .i64 off', .int .i64 k', .int .i64 inc']))
      rw [hd1, hd] at hTw
      have hTw2 := hTw.second hb (c' := c9) ho (Nat.le_trans hT.1.size hg) hg
      exact ⟨fun h => by simpa [sput] using h0 (by simpa [did] using h), fun h => by simpa [sput] using h2 (by simpa [did] using h), by simpa [sput, did, hd1] using hTw2, by simpa [sput, did, hd7] using hT2, fun h => by simpa [did] using hx (by simpa [did] using h), fun h => by simp [did, hd7] at h, fun h => by simpa [did] using hd1⟩
    · have hd6 : d 6 = false := by
        cases h : d 6
        · rfl
        · have := (hx h).1; rw [hd] at this; cases this
      rw [hd, hd6] at hT
      have hT2 := hT.alloc1
      have hTw2 := hTw.nxt (below_one (W := W) (o := .cells #[.slice none 0 0, .int .i64 0, .int .i64 0, .int .i64 0] 30))
      simp [go_sem, evS]
      exact ⟨fun h => by simpa [sput] using h0 (by simpa [did] using h), fun h => by simpa [sput] using h2 (by simpa [did] using h), by simpa [sput, did] using hTw2, by simpa [sput, did, hd6] using hT2, fun h => by simp [did, hd6] at h, fun h => by simpa [did] using hy (by simpa [did] using h), fun h => by simpa [did] using hv (by simpa [did] using h)⟩
    · have hd7 : d 7 = false := by
        cases h : d 7
        · rfl
        · have := (hy h).1; rw [hd] at this; cases this
      rw [hd, hd7] at hT
      have hT2 := hT.alloc2
      have hTw2 := hTw.nxt (below_one (W := W) (o := .cells #[.slice none 0 0, .int .i64 0, .int .i64 0, .int .i64 0] 30))
      simp [go_sem, evS]
      exact ⟨fun h => by simpa [sput] using h0 (by simpa [did] using h), fun h => by simpa [sput] using h2 (by simpa [did] using h), by simpa [sput, did] using hTw2, by simpa [sput, did, hd7] using hT2, fun h => by simpa [did] using hx (by simpa [did] using h), fun h => by simp [did, hd7] at h, fun h => by simpa [did] using hv (by simpa [did] using h)⟩
    · have e4 : d 4 = true := by simp [hdep]
      have e1 : d 1 = true := by simp [hdep]
      have hTw0 := hTw
      obtain ⟨gg, cc, hva, hO1, hZ1, hrest⟩ := hTw e1
      rw [hd, e4] at hT
      obtain ⟨p, hp, hp2, hpB⟩ := hT.2.1 rfl
      simp only [Bool.false_eq_true, if_false] at hpB
      obtain ⟨r0, r1, r2, r3⟩ := cells4w hpB
      obtain ⟨q0, q1, q2, q3⟩ := frozen4w hpB
      rw [hp] at hT
      have hfar : ∀ k9, k9 ≠ p → _ := fun k9 (hk9 : k9 ≠ p) => heap_sets4 (w := W) hk9 (.slice (some ⟨gg, 0, none⟩) n cc) (.int .i64 off) (.int .i64 k) (.int .i64 inc)
      have hst := hpB.store4v (.slice (some ⟨gg, 0, none⟩) n cc) (.int .i64 off) (.int .i64 k) (.int .i64 inc)
      have hT2 := hT.store1 (W' := ((((W.setCell ⟨p, 0, none⟩ (.slice (some ⟨gg, 0, none⟩) n cc)).setCell ⟨p, 1, none⟩ (.int .i64 off)).setCell ⟨p, 2, none⟩ (.int .i64 k)).setCell ⟨p, 3, none⟩ (.int .i64 inc))) hfar (by rw [hva]; exact hst) (rest_sets4 _ _ _ _ _ _ _ _ _)
      have hTw2 := hTw0.far hpB (by decide) hfar
      simp [go_sem, evS, hp, hva, r0, r1, r2, r3, q0, q1, q2, q3]
      exact ⟨fun h => by simpa [sput] using h0 (by simpa [did] using h), fun h => by simpa [sput] using h2 (by simpa [did] using h), by simpa [sput, did] using hTw2, by simpa [sput, did, hp, e4] using hT2, fun _ => by simp [did, e4, e1], fun h => by simpa [did] using hy (by simpa [did] using h), fun h => by simpa [did] using hv (by simpa [did] using h)⟩
    · have e5 : d 5 = true := by simp [hdep]
      have e1 : d 3 = true := by simp [hdep]
      have hTw0 := hTw
      obtain ⟨gg0, cc0, hva0, hO1, hZ1, hrest⟩ := hTw (hv e1)
      obtain ⟨gg, cc, hva, hO2, hZ2, hne2⟩ := hrest e1
      rw [hd, e5] at hT
      obtain ⟨p, hp, hp2, hpB⟩ := hT.2.2.1 rfl
      simp only [Bool.false_eq_true, if_false] at hpB
      obtain ⟨r0, r1, r2, r3⟩ := cells4w hpB
      obtain ⟨q0, q1, q2, q3⟩ := frozen4w hpB
      rw [hp] at hT
      have hfar : ∀ k9, k9 ≠ p → _ := fun k9 (hk9 : k9 ≠ p) => heap_sets4 (w := W) hk9 (.slice (some ⟨gg, 0, none⟩) n' cc) (.int .i64 off') (.int .i64 k') (.int .i64 inc')
      have hst := hpB.store4v (.slice (some ⟨gg, 0, none⟩) n' cc) (.int .i64 off') (.int .i64 k') (.int .i64 inc')
      have hT2 := hT.store2 (W' := ((((W.setCell ⟨p, 0, none⟩ (.slice (some ⟨gg, 0, none⟩) n' cc)).setCell ⟨p, 1, none⟩ (.int .i64 off')).setCell ⟨p, 2, none⟩ (.int .i64 k')).setCell ⟨p, 3, none⟩ (.int .i64 inc'))) hfar (by rw [hva]; exact hst) (rest_sets4 _ _ _ _ _ _ _ _ _)
      have hTw2 := hTw0.far hpB (by decide) hfar
      simp [go_sem, evS, hp, hva, r0, r1, r2, r3, q0, q1, q2, q3]
      exact ⟨fun h => by simpa [sput] using h0 (by simpa [did] using h), fun h => by simpa [sput] using h2 (by simpa [did] using h), by simpa [sput, did] using hTw2, by simpa [sput, did, hp, e5] using hT2, fun h => by simpa [did] using hx (by simpa [did] using h), fun _ => by simp [did, e5, e1], fun h => by simpa [did] using hv (by simpa [did] using h)⟩
  intro d s W hJ hd
  obtain ⟨_, _, hTw, hT, _, _, _⟩ := hJ
  obtain ⟨g1, c1, hsA, hO1, hZ1, hrest⟩ := hTw (hd 1 (by decide))
  obtain ⟨g2, c2, hsB, hO2, hZ2, hg12⟩ := hrest (hd 3 (by decide))
  obtain ⟨hb, hp, hq, hne⟩ := hT
  obtain ⟨p, hp, hp2, hpB⟩ := hp (hd 4 (by decide))
  obtain ⟨q, hq, hq2, hqB⟩ := hq (hd 5 (by decide))
  have hpq := hne (hd 4 (by decide)) (hd 5 (by decide))
  rw [hd 6 (by decide), hsA] at hpB
  rw [hd 7 (by decide), hsB] at hqB
  rw [hp, hq] at hpq
  have hpq2 : p ≠ q := fun e => hpq (by rw [e])
  simp only [if_true, cellsV] at hpB hqB
  clear hne hTw hrest hpq hd
  simp [setAll, hp, hq]
  clear hp hq hsA hsB
  generalize s 27 = s26
  generalize s 28 = s27
  generalize s 29 = s28
  generalize s 30 = s29
  have Hx4 := Lib.hid (Hx3.out.below hb Hx3.out.lt)
  have Hy4 := Lib.hid (Hy3.out.below hb Hy3.out.lt)
  have Hp4 := Lib.hid hpB
  have Hq4 := Lib.hid hqB
  have Hu4 := Lib.hid hO1
  have Hv4 := Lib.hid hO2
  have HB4 := Lib.hid (below_nx HB3.out hb)
  have Hg1g2 := Lib.hid hg12
  have hlo0 := Hy3.out.lt
  have Hpqz := Lib.hid (show w.heap.size + 1 < g1 ∧ w.heap.size + 1 < g2 ∧ w.heap.size + 1 < p ∧ w.heap.size + 1 < q by omega)
  have Hpq := Lib.hid hpq2
  clear hpB hqB hO1 hO2 hb hg12 hpq2 hZ1 hZ2 hp2 hq2 hlo0
  clear x0 x1 x2 x3 y0 y1 y2 y3
  obtain ⟨x0, x1, x2, x3⟩ := cells4w Hx4.out
  obtain ⟨y0, y1, y2, y3⟩ := cells4w Hy4.out
  obtain ⟨p0, p1, p2, p3⟩ := cells4w Hp4.out
  obtain ⟨q0, q1, q2, q3⟩ := cells4w Hq4.out
  have Hu4' := Lib.hid (show Own W g1 l from Hu4.out)
  have Hv4' := Lib.hid (show Own W g2 l' from Hv4.out)
  clear Hu4 Hv4
  have Hu4 := Hu4'
  have Hv4 := Hv4'
  clear Hu4' Hv4'
  go_wp2_with fail
  refine (HAp.out _ _ _ _ _ (Hg1g2.out).symm Hu4.out Hv4.out).mono ?_
  rintro e w6 ⟨rfl, m, hm1, hm2, hm3, hc⟩
  have Hx5 := Lib.hid (hc.blk (by have := Hpqz.out; simp; omega) Hx4.out)
  have Hy5 := Lib.hid (hc.blk (by have := Hpqz.out; simp; omega) Hy4.out)
  have Hp5 := Lib.hid (hc.blk (fun h => own_ne Hv4.out Hp4.out (by decide) (List.mem_singleton.1 h).symm) Hp4.out)
  have Hq5 := Lib.hid (hc.blk (fun h => own_ne Hv4.out Hq4.out (by decide) (List.mem_singleton.1 h).symm) Hq4.out)
  have Hu5 := Lib.hid (hc.own (fun h => Hg1g2.out (List.mem_singleton.1 h)) Hu4.out)
  have Hv5 := Lib.hid hm3
  have HB5 := Lib.hid (hc.below HB4.out HB4.out.size (fun x hx => by have := Hpqz.out; simp at hx; omega))
  have HM := Lib.hid (And.intro hm1 hm2)
  clear hm1 hm2 hm3 hc
  clear x0 x1 x2 x3 y0 y1 y2 y3 p0 p1 p2 p3 q0 q1 q2 q3
  obtain ⟨x0, x1, x2, x3⟩ := cells4w Hx5.out
  obtain ⟨y0, y1, y2, y3⟩ := cells4w Hy5.out
  obtain ⟨p0, p1, p2, p3⟩ := cells4w Hp5.out
  obtain ⟨q0, q1, q2, q3⟩ := cells4w Hq5.out
  go_wp2_with fail
  refine (HRp.out _).mono ?_
  rintro e w7 ⟨rfl, hb⟩
  have Hx6 := Lib.hid (Hx5.out.nxt hb)
  have Hy6 := Lib.hid (Hy5.out.nxt hb)
  have Hp6 := Lib.hid (Hp5.out.nxt hb)
  have Hq6 := Lib.hid (Hq5.out.nxt hb)
  have Hu6 := Lib.hid (Hu5.out.nxt hb)
  have Hv6 := Lib.hid (Hv5.out.nxt hb)
  have HB6 := Lib.hid (below_nx HB5.out hb)
  clear hb
  clear x0 x1 x2 x3 y0 y1 y2 y3 p0 p1 p2 p3 q0 q1 q2 q3
  obtain ⟨x0, x1, x2, x3⟩ := cells4w Hx6.out
  obtain ⟨y0, y1, y2, y3⟩ := cells4w Hy6.out
  obtain ⟨p0, p1, p2, p3⟩ := cells4w Hp6.out
  obtain ⟨q0, q1, q2, q3⟩ := cells4w Hq6.out
  go_wp2_with fail
  refine wp_region_inv [76, 77, 78, 79, 80, 81, 82, 83, 13] (fun d s W => (d 0 = true → s 76 = .agg #[.slice A' n' c', .int .i64 off', .int .i64 k', .int .i64 inc']) ∧ (d 1 = true → s 77 = .float .f64 a) ∧ (d 2 = true → s 78 = .agg #[.slice A n c, .int .i64 off, .int .i64 k, .int .i64 inc]) ∧ (d 3 = true → SlR W (s 79) K X) ∧ (d 4 = true → s 80 = .agg #[.slice A' n' c', .int .i64 off', .int .i64 k', .int .i64 inc']) ∧ (d 5 = true → SlR W (s 81) K Y) ∧ (d 6 = true → SlM W (s 82) K (AxQ a X Y)) ∧ (d 7 = true → SlO W (s 83) n' (fun M => ∃ m' : List Nat, m'.length = K ∧ (∀ q, q < K → AxQ a X Y q (m'.getD q 0)) ∧ M = wrt l' o' i' m' K)) ∧ (d 8 = true → SlO W (s 13) n' (fun M => ∃ m' : List Nat, m'.length = K ∧ (∀ q, q < K → AxQ a X Y q (m'.getD q 0)) ∧ M = wrt l' o' i' m' K)) ∧ Below w7.heap.size w7 W)
    rfl (by kernel_rfl) ?_ ?_ ?_
  · exact ⟨by simp, by simp, by simp, by simp, by simp, by simp, by simp, by simp, by simp, (Below.refl _ _).drew⟩
  · refine ⟨?_, ?_, ?_, ?_, ?_, ?_, ?_, ?_, ?_, trivial⟩
    all_goals
      intro d s W hJ hfr hd hdep
      simp only [List.mem_cons, forall_eq_or_imp, List.not_mem_nil, false_implies, implies_true, and_true, Region.binds] at hdep
      have f0 := hfr 0 (by decide)
      have f5 := hfr 5 (by decide)
      have f6 := hfr 6 (by decide)
      simp at f0 f5 f6 hdep
      obtain ⟨h0, h1, h2, h3, h4, h5, h6, h7, h8, hT⟩ := hJ
    · unfold OpSteps
      obtain ⟨p0, p1, p2, p3⟩ := cells4w (Hy6.out.below hT Hy6.out.lt)
      simp [go_sem, evS, f6, p0, p1, p2, p3]
      exact ⟨fun _ => by simp [sput], fun h => by simpa [sput] using h1 (by simpa [did] using h), fun h => by simpa [sput] using h2 (by simpa [did] using h), fun h => by simpa [sput] using h3 (by simpa [did] using h), fun h => by simpa [sput] using h4 (by simpa [did] using h), fun h => by simpa [sput] using h5 (by simpa [did] using h), fun h => by simpa [sput] using h6 (by simpa [did] using h), fun h => by simpa [sput] using h7 (by simpa [did] using h), fun h => by simpa [sput] using h8 (by simpa [did] using h), hT⟩
    · unfold OpSteps
      simp [go_sem, evS, f0]
      exact ⟨fun h => by simpa [sput] using h0 (by simpa [did] using h), fun _ => by simp [sput], fun h => by simpa [sput] using h2 (by simpa [did] using h), fun h => by simpa [sput] using h3 (by simpa [did] using h), fun h => by simpa [sput] using h4 (by simpa [did] using h), fun h => by simpa [sput] using h5 (by simpa [did] using h), fun h => by simpa [sput] using h6 (by simpa [did] using h), fun h => by simpa [sput] using h7 (by simpa [did] using h), fun h => by simpa [sput] using h8 (by simpa [did] using h), hT⟩
    · unfold OpSteps
      obtain ⟨p0, p1, p2, p3⟩ := cells4w (Hx6.out.below hT Hx6.out.lt)
      simp [go_sem, evS, f5, p0, p1, p2, p3]
      exact ⟨fun h => by simpa [sput] using h0 (by simpa [did] using h), fun h => by simpa [sput] using h1 (by simpa [did] using h), fun _ => by simp [sput], fun h => by simpa [sput] using h3 (by simpa [did] using h), fun h => by simpa [sput] using h4 (by simpa [did] using h), fun h => by simpa [sput] using h5 (by simpa [did] using h), fun h => by simpa [sput] using h6 (by simpa [did] using h), fun h => by simpa [sput] using h7 (by simpa [did] using h), fun h => by simpa [sput] using h8 (by simpa [did] using h), hT⟩
    · have g2 := h2 (by simp [hdep])
      unfold OpSteps
      simp [go_sem, evS, g2]
      refine (HLx.out W (below_nx HB6.out hT)).mono ?_
      rintro e W' ⟨LA, dA, rfl, hr, hb⟩
      refine ⟨_, rfl, ?_⟩
      exact ⟨fun h => by simpa [sput] using h0 (by simpa [did] using h), fun h => by simpa [sput] using h1 (by simpa [did] using h), fun h => by simpa [sput] using h2 (by simpa [did] using h), fun _ => by simpa [sput] using (show SlR W' (.slice LA K dA) K X from ⟨LA, dA, rfl, hr⟩), fun h => by simpa [sput] using h4 (by simpa [did] using h), fun h => by simpa [sput] using (h5 (by simpa [did] using h)).below hb, fun h => by simpa [sput] using (h6 (by simpa [did] using h)).below hb, fun h => by simpa [sput] using (h7 (by simpa [did] using h)).below hb, fun h => by simpa [sput] using (h8 (by simpa [did] using h)).below hb, below_nx hT hb⟩
    · unfold OpSteps
      obtain ⟨p0, p1, p2, p3⟩ := cells4w (Hy6.out.below hT Hy6.out.lt)
      simp [go_sem, evS, f6, p0, p1, p2, p3]
      exact ⟨fun h => by simpa [sput] using h0 (by simpa [did] using h), fun h => by simpa [sput] using h1 (by simpa [did] using h), fun h => by simpa [sput] using h2 (by simpa [did] using h), fun h => by simpa [sput] using h3 (by simpa [did] using h), fun _ => by simp [sput], fun h => by simpa [sput] using h5 (by simpa [did] using h), fun h => by simpa [sput] using h6 (by simpa [did] using h), fun h => by simpa [sput] using h7 (by simpa [did] using h), fun h => by simpa [sput] using h8 (by simpa [did] using h), hT⟩
    · have g4 := h4 (by simp [hdep])
      unfold OpSteps
      simp [go_sem, evS, g4]
      refine (HLy.out W (below_nx HB6.out hT)).mono ?_
      rintro e W' ⟨LA, dA, rfl, hr, hb⟩
      refine ⟨_, rfl, ?_⟩
      exact ⟨fun h => by simpa [sput] using h0 (by simpa [did] using h), fun h => by simpa [sput] using h1 (by simpa [did] using h), fun h => by simpa [sput] using h2 (by simpa [did] using h), fun h => by simpa [sput] using (h3 (by simpa [did] using h)).below hb, fun h => by simpa [sput] using h4 (by simpa [did] using h), fun _ => by simpa [sput] using (show SlR W' (.slice LA K dA) K Y from ⟨LA, dA, rfl, hr⟩), fun h => by simpa [sput] using (h6 (by simpa [did] using h)).below hb, fun h => by simpa [sput] using (h7 (by simpa [did] using h)).below hb, fun h => by simpa [sput] using (h8 (by simpa [did] using h)).below hb, below_nx hT hb⟩
    · have g1 := h1 (by simp [hdep])
      have g3 := h3 (by simp [hdep])
      have g5 := h5 (by simp [hdep])
      unfold OpSteps
      obtain ⟨B1, d1, z1, r1⟩ := g3
      obtain ⟨B2, d2, z2, r2⟩ := g5
      simp [go_sem, evS, g1, z1, z2]
      refine (HRa.out W B1 B2 d1 d2 r1 r2).mono ?_
      rintro e W' ⟨LA, dA, m', rfl, hm, hR, hr, hb⟩
      refine ⟨_, rfl, ?_⟩
      exact ⟨fun h => by simpa [sput] using h0 (by simpa [did] using h), fun h => by simpa [sput] using h1 (by simpa [did] using h), fun h => by simpa [sput] using h2 (by simpa [did] using h), fun h => by simpa [sput] using (h3 (by simpa [did] using h)).below hb, fun h => by simpa [sput] using h4 (by simpa [did] using h), fun h => by simpa [sput] using (h5 (by simpa [did] using h)).below hb, fun _ => by simpa [sput] using (show SlM W' (.slice LA K dA) K (AxQ a X Y) from ⟨m', hm, hR, LA, dA, rfl, hr⟩), fun h => by simpa [sput] using (h7 (by simpa [did] using h)).below hb, fun h => by simpa [sput] using (h8 (by simpa [did] using h)).below hb, below_nx hT hb⟩
    · have g0 := h0 (by simp [hdep])
      have g6 := h6 (by simp [hdep])
      unfold OpSteps
      obtain ⟨m', hm, hR, B1, d1, z1, r1⟩ := g6
      simp [go_sem, evS, g0, z1]
      refine (HWr.out W (below_nx HB6.out hT) B1 d1 m' hm r1).mono ?_
      rintro e W' ⟨g3, c3, rfl, ho3, _, hb⟩
      refine ⟨_, rfl, ?_⟩
      exact ⟨fun h => by simpa [sput] using h0 (by simpa [did] using h), fun h => by simpa [sput] using h1 (by simpa [did] using h), fun h => by simpa [sput] using h2 (by simpa [did] using h), fun h => by simpa [sput] using (h3 (by simpa [did] using h)).below hb, fun h => by simpa [sput] using h4 (by simpa [did] using h), fun h => by simpa [sput] using (h5 (by simpa [did] using h)).below hb, fun h => by simpa [sput] using (h6 (by simpa [did] using h)).below hb, fun _ => by simpa [sput] using (show SlO W' (.slice (some ⟨g3, 0, none⟩) n' c3) n' (fun M => ∃ m' : List Nat, m'.length = K ∧ (∀ q, q < K → AxQ a X Y q (m'.getD q 0)) ∧ M = wrt l' o' i' m' K) from ⟨g3, c3, _, rfl, ⟨m', hm, hR, rfl⟩, ho3⟩), fun h => by simpa [sput] using (h8 (by simpa [did] using h)).below hb, below_nx hT hb⟩
    · have g7 := h7 (by simp [hdep])
      unfold OpSteps
      obtain ⟨g3, c3, M, z1, hS, ho3⟩ := g7
      simp [go_sem, evS, z1]
      exact ⟨fun h => by simpa [sput] using h0 (by simpa [did] using h), fun h => by simpa [sput] using h1 (by simpa [did] using h), fun h => by simpa [sput] using h2 (by simpa [did] using h), fun h => by simpa [sput] using h3 (by simpa [did] using h), fun h => by simpa [sput] using h4 (by simpa [did] using h), fun h => by simpa [sput] using h5 (by simpa [did] using h), fun h => by simpa [sput] using h6 (by simpa [did] using h), fun h => by simpa [sput] using h7 (by simpa [did] using h), fun _ => by simpa [sput] using (show SlO W (.slice (some ⟨g3, 0, none⟩) n' c3) n' (fun M => ∃ m' : List Nat, m'.length = K ∧ (∀ q, q < K → AxQ a X Y q (m'.getD q 0)) ∧ M = wrt l' o' i' m' K) from ⟨g3, c3, M, rfl, hS, ho3⟩), hT⟩
  intro d s W hJ hd
  obtain ⟨h0, h1, h2, h3, h4, h5, h6, h7, h8, hT⟩ := hJ
  obtain ⟨g3, c3, M, hs13, ⟨m', hm', hR', rfl⟩, ho3⟩ := h8 (hd 8 (by decide))
  have hb : Below w7.heap.size w7 W := hT
  clear h0 h1 h2 h3 h4 h5 h6 h7 h8 hT hd
  simp [setAll, hs13]
  clear hs13
  generalize s 76 = s76
  generalize s 77 = s77
  generalize s 78 = s78
  generalize s 79 = s79
  generalize s 80 = s80
  generalize s 81 = s81
  generalize s 82 = s82
  generalize s 83 = s83
  have HM' := Lib.hid (And.intro hm' hR')
  clear hm' hR'
  generalize W = w8 at *
  have Hx7 := Lib.hid (Hx6.out.nxt hb)
  have Hy7 := Lib.hid (Hy6.out.nxt hb)
  have Hp7 := Lib.hid (Hp6.out.nxt hb)
  have Hq7 := Lib.hid (Hq6.out.nxt hb)
  have Hu7 := Lib.hid (Hu6.out.nxt hb)
  have Hv7 := Lib.hid (Hv6.out.nxt hb)
  have HB7 := Lib.hid (below_nx HB6.out hb)
  clear hb
  clear x0 x1 x2 x3 y0 y1 y2 y3 p0 p1 p2 p3 q0 q1 q2 q3
  obtain ⟨x0, x1, x2, x3⟩ := cells4w Hx7.out
  obtain ⟨y0, y1, y2, y3⟩ := cells4w Hy7.out
  obtain ⟨p0, p1, p2, p3⟩ := cells4w Hp7.out
  obtain ⟨q0, q1, q2, q3⟩ := cells4w Hq7.out
  have Ht7 := Lib.hid ho3
  clear ho3
  go_wp2_with fail
  refine (HFin.out _ _ _ _ _ _ _ HM.out.1 HM.out.2 HM'.out.1 HM'.out.2 Hv7.out.row Ht7.out.row).mono ?_
  rintro e w9 ⟨rfl, hb⟩
  have Hx8 := Lib.hid (Hx7.out.nxt hb)
  have Hy8 := Lib.hid (Hy7.out.nxt hb)
  have Hp8 := Lib.hid (Hp7.out.nxt hb)
  have Hq8 := Lib.hid (Hq7.out.nxt hb)
  have Hu8 := Lib.hid (Hu7.out.nxt hb)
  have Hv8 := Lib.hid (Hv7.out.nxt hb)
  have Ht8 := Lib.hid (Ht7.out.nxt hb)
  have HB8 := Lib.hid (below_nx HB7.out hb)
  clear hb
  clear x0 x1 x2 x3 y0 y1 y2 y3 p0 p1 p2 p3 q0 q1 q2 q3
  obtain ⟨x0, x1, x2, x3⟩ := cells4w Hx8.out
  obtain ⟨y0, y1, y2, y3⟩ := cells4w Hy8.out
  obtain ⟨p0, p1, p2, p3⟩ := cells4w Hp8.out
  obtain ⟨q0, q1, q2, q3⟩ := cells4w Hq8.out
  go_wp2_with fail
  refine (HAll.out _ _ _ _ _ Hu8.out.row (HA.out.below HB8.out)).mono ?_
  rintro e w10 ⟨rfl, hb⟩
  have Hx9 := Lib.hid (Hx8.out.nxt hb)
  have Hy9 := Lib.hid (Hy8.out.nxt hb)
  have Hp9 := Lib.hid (Hp8.out.nxt hb)
  have Hq9 := Lib.hid (Hq8.out.nxt hb)
  have Hu9 := Lib.hid (Hu8.out.nxt hb)
  have Hv9 := Lib.hid (Hv8.out.nxt hb)
  have Ht9 := Lib.hid (Ht8.out.nxt hb)
  have HB9 := Lib.hid (below_nx HB8.out hb)
  clear hb
  clear x0 x1 x2 x3 y0 y1 y2 y3 p0 p1 p2 p3 q0 q1 q2 q3
  obtain ⟨x0, x1, x2, x3⟩ := cells4w Hx9.out
  obtain ⟨y0, y1, y2, y3⟩ := cells4w Hy9.out
  obtain ⟨p0, p1, p2, p3⟩ := cells4w Hp9.out
  obtain ⟨q0, q1, q2, q3⟩ := cells4w Hq9.out
  go_wp2_with fail
  refine (awake6_any _).mono ?_
  rintro e w11 ⟨rfl, hb⟩
  have Hx10 := Lib.hid (Hx9.out.nxt hb)
  have Hy10 := Lib.hid (Hy9.out.nxt hb)
  have Hp10 := Lib.hid (Hp9.out.nxt hb)
  have Hq10 := Lib.hid (Hq9.out.nxt hb)
  have Hu10 := Lib.hid (Hu9.out.nxt hb)
  have Hv10 := Lib.hid (Hv9.out.nxt hb)
  have Ht10 := Lib.hid (Ht9.out.nxt hb)
  have HB10 := Lib.hid (below_nx HB9.out hb)
  clear hb
  clear x0 x1 x2 x3 y0 y1 y2 y3 p0 p1 p2 p3 q0 q1 q2 q3
  obtain ⟨x0, x1, x2, x3⟩ := cells4w Hx10.out
  obtain ⟨y0, y1, y2, y3⟩ := cells4w Hy10.out
  obtain ⟨p0, p1, p2, p3⟩ := cells4w Hp10.out
  obtain ⟨q0, q1, q2, q3⟩ := cells4w Hq10.out
  go_wp2_with fail
  go_ret
  exact ⟨rfl, HB10.out⟩
end Go.Proofs.Ytjjneiidggcfdaa
