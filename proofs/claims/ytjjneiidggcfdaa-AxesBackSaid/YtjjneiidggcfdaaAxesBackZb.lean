/-
What the proof rests on: laws of floats, lists, memory and the walks of the functions. Conditions: as each says.
-/
import Derived.Test.YtjjneiidggcfdaaAxesBackZa
import Derived.Below
import Derived.ChangeSame
import Derived.Laws.Cover2
import Derived.Test.YtjjneiidggcfdaaRows
import Derived.KernelRfl
import Derived.WalkKit
import Derived.Laws.Rows
import Derived.Deep.Draws
import Derived.Laws.OwnMore
import Derived.Lib.Hide
import Derived.Laws.FloatBits
import GoSem.Core.Float
import Derived.WalkLawsBesides
import Derived.Laws.BitsAllLaws
import Derived.WalkSpells
import Derived.LoopTactic
import Derived.Outline
import Derived.Laws.Externs
import Derived.Deep.QuietTactic
import Derived.BigQuiet
import Derived.RegionTactic
import Derived.Deep.Slices
import Derived.Deep.Fields
import Derived.Laws.FloatArith
import Derived.Deep.RegionHeld3
import Derived.Deep.DrawnRows
import Derived.Deep.DeepCutAuto
import Derived.Deep.CutBlock
import Derived.Deep.OwnRows
import Derived.IntWalk
import Derived.Deep.RegionWith
import Derived.Laws.AppendOwn
import Derived.LaidEqlPtr
import Derived.BigRegion
import Derived.Orders
import Derived.RowKit3
import Derived.Lib.BitFns
import Derived.Shelf.Abstract
import Derived.Maps.AppendAt
set_option linter.unusedVariables false
set_option linter.unusedSimpArgs false
set_option linter.unnecessarySimpa false
namespace Go.Proofs.Ytjjneiidggcfdaa
open Go.RowKit
attribute [local go_sem ↓] Go.wp_at_zero Go.wp_at_succ

theorem axplace_any (A : Option Addr) (n c : Nat) (o K i k : Nat) (w : World) (hP : o + k * i < 1048576) :
    Calls Try.prog 56 #[vec A n c o K i, .int .i64 k] w fun e w' => e = .returned (.int .i64 ((o + k * i : Nat) : Int)) ∧ Below w.heap.size w w' := by
  have HB := Lib.hid ((Below.refl w.heap.size w).alloc (Nat.le_refl _) (.cells #[.slice A n c, .int .i64 o, .int .i64 K, .int .i64 i] 30))
  obtain ⟨a, ha⟩ : ∃ a, k * i = a := ⟨_, rfl⟩
  obtain ⟨P, hPd⟩ : ∃ P, o + k * i = P := ⟨_, rfl⟩
  have e1 : ((k : Int) * (i : Int)) = (a : Int) := by rw [← ha]; simp
  have e2 : (o : Int) + (a : Int) = (P : Int) := by rw [← hPd, ha]; simp
  have HW := Lib.hid (wrap3 (o := o) (a := a) (P := P) (by rw [← hPd]; omega) (by rw [← ha, hPd]))
  rw [hPd] at hP ⊢
  clear ha hPd hP
  obtain ⟨u1, u2, u3, u4⟩ := HW.out
  unfold vec
  go_enter Try.func56, Try.ntmps56
  go_wp2_with fail
  go_ret
  exact ⟨rfl, HB.out⟩

set_option maxRecDepth 100000 in
set_option maxHeartbeats 1000000 in
/-- What Axpy does to a number. -/
theorem axaxpy_one (a x y : Nat) (pa px b y0 n c o K i k : Nat) (w : World) (ha : w.cell? ⟨pa, 0, none⟩ = some (.float .f64 a)) (hx : Blk w px 30 #[.slice (some ⟨b, y0, none⟩) n c, .int .i64 o, .int .i64 K, .int .i64 i])
    (hc : w.cell? ⟨b, y0 + (o + k * i), none⟩ = some (.float .f64 x)) (hP : o + k * i < n) (hn : n < 1048576) :
    Calls Try.prog 55 #[.int .i64 (k : Int), .float .f64 y, .pointer (some ⟨pa, 0, none⟩), .pointer (some ⟨px, 0, none⟩)] w fun e w' => ∃ p r, e = .returned (.float .f64 r) ∧ Comes .mul a x p ∧ Comes .add y p r ∧ Below w.heap.size w w' := by
  have HP := Lib.hid (fun W => axplace_any (some ⟨b, y0, none⟩) n c o K i k W (by omega))
  unfold vec at HP
  obtain ⟨P, hPd⟩ : ∃ P, o + k * i = P := ⟨_, rfl⟩
  rw [hPd] at HP hc hP
  have b1 : (P : Int) < (n : Int) := by omega
  have b0 : (0 : Int) ≤ (P : Int) := by omega
  have b2 := hP
  have HA := Lib.hid ha
  have HX := Lib.hid hx
  have HC := Lib.hid hc
  clear ha hx hc hPd hP hn
  go_enter Try.func55, Try.ntmps55
  go_wp2_with fail
  refine wp_region_inv [7, 8, 9, 10, 11, 12, 13, 14, 15, 16, 17, 6] (fun d s W => (d 0 = true → s 7 = .float .f64 y) ∧ (d 1 = true → s 8 = .float .f64 a) ∧ (d 2 = true → s 9 = .pointer (some ⟨px, 0, none⟩)) ∧ (d 3 = true → s 10 = .slice (some ⟨b, y0, none⟩) n c) ∧ (d 4 = true → s 11 = .agg #[.slice (some ⟨b, y0, none⟩) n c, .int .i64 (o : Int), .int .i64 (K : Int), .int .i64 (i : Int)]) ∧ (d 5 = true → s 12 = .int .i64 (k : Int)) ∧ (d 6 = true → s 13 = .int .i64 (P : Int)) ∧ (d 7 = true → s 14 = .pointer (some ⟨b, y0 + P, none⟩)) ∧ (d 8 = true → s 15 = .float .f64 x) ∧ (d 9 = true → ∃ p, s 16 = .float .f64 p ∧ Comes .mul a x p) ∧ (d 10 = true → ∃ p r, s 17 = .float .f64 r ∧ Comes .mul a x p ∧ Comes .add y p r) ∧ (d 11 = true → ∃ p r, s 6 = .float .f64 r ∧ Comes .mul a x p ∧ Comes .add y p r) ∧ Below w.heap.size w W)
    rfl (by kernel_rfl) ?_ ?_ ?_
  · exact ⟨by simp, by simp, by simp, by simp, by simp, by simp, by simp, by simp, by simp, by simp, by simp, by simp, (Below.refl _ _).drew⟩
  · refine ⟨?_, ?_, ?_, ?_, ?_, ?_, ?_, ?_, ?_, ?_, ?_, ?_, trivial⟩
    all_goals
      intro d s W hJ hfr hd hdep
      simp only [List.mem_cons, forall_eq_or_imp, List.not_mem_nil, false_implies, implies_true, and_true, Region.binds] at hdep
      have f0 := hfr 0 (by decide)
      have f1 := hfr 1 (by decide)
      have f2 := hfr 2 (by decide)
      have f3 := hfr 3 (by decide)
      simp at f0 f1 f2 f3 hdep
      obtain ⟨h0, h1, h2, h3, h4, h5, h6, h7, h8, h9, h10, h11, hT⟩ := hJ
      unfold OpSteps
    · simp [go_sem, evS, f1]
      exact ⟨fun _ => by simp [sput], fun h => by simpa [sput] using h1 (by simpa [did] using h), fun h => by simpa [sput] using h2 (by simpa [did] using h), fun h => by simpa [sput] using h3 (by simpa [did] using h), fun h => by simpa [sput] using h4 (by simpa [did] using h), fun h => by simpa [sput] using h5 (by simpa [did] using h), fun h => by simpa [sput] using h6 (by simpa [did] using h), fun h => by simpa [sput] using h7 (by simpa [did] using h), fun h => by simpa [sput] using h8 (by simpa [did] using h), fun h => by simpa [sput] using h9 (by simpa [did] using h), fun h => by simpa [sput] using h10 (by simpa [did] using h), fun h => by simpa [sput] using h11 (by simpa [did] using h), hT⟩
    · have pc := cell_below HA.out hT
      simp [go_sem, evS, f2, pc]
      exact ⟨fun h => by simpa [sput] using h0 (by simpa [did] using h), fun _ => by simp [sput], fun h => by simpa [sput] using h2 (by simpa [did] using h), fun h => by simpa [sput] using h3 (by simpa [did] using h), fun h => by simpa [sput] using h4 (by simpa [did] using h), fun h => by simpa [sput] using h5 (by simpa [did] using h), fun h => by simpa [sput] using h6 (by simpa [did] using h), fun h => by simpa [sput] using h7 (by simpa [did] using h), fun h => by simpa [sput] using h8 (by simpa [did] using h), fun h => by simpa [sput] using h9 (by simpa [did] using h), fun h => by simpa [sput] using h10 (by simpa [did] using h), fun h => by simpa [sput] using h11 (by simpa [did] using h), hT⟩
    · simp [go_sem, evS, f3]
      exact ⟨fun h => by simpa [sput] using h0 (by simpa [did] using h), fun h => by simpa [sput] using h1 (by simpa [did] using h), fun _ => by simp [sput], fun h => by simpa [sput] using h3 (by simpa [did] using h), fun h => by simpa [sput] using h4 (by simpa [did] using h), fun h => by simpa [sput] using h5 (by simpa [did] using h), fun h => by simpa [sput] using h6 (by simpa [did] using h), fun h => by simpa [sput] using h7 (by simpa [did] using h), fun h => by simpa [sput] using h8 (by simpa [did] using h), fun h => by simpa [sput] using h9 (by simpa [did] using h), fun h => by simpa [sput] using h10 (by simpa [did] using h), fun h => by simpa [sput] using h11 (by simpa [did] using h), hT⟩
    · have g2 := h2 (by simp [hdep])
      obtain ⟨p0, p1, p2, p3⟩ := cells4w (HX.out.below hT HX.out.lt)
      simp [go_sem, evS, g2, p0, p1, p2, p3]
      exact ⟨fun h => by simpa [sput] using h0 (by simpa [did] using h), fun h => by simpa [sput] using h1 (by simpa [did] using h), fun h => by simpa [sput] using h2 (by simpa [did] using h), fun _ => by simp [sput], fun h => by simpa [sput] using h4 (by simpa [did] using h), fun h => by simpa [sput] using h5 (by simpa [did] using h), fun h => by simpa [sput] using h6 (by simpa [did] using h), fun h => by simpa [sput] using h7 (by simpa [did] using h), fun h => by simpa [sput] using h8 (by simpa [did] using h), fun h => by simpa [sput] using h9 (by simpa [did] using h), fun h => by simpa [sput] using h10 (by simpa [did] using h), fun h => by simpa [sput] using h11 (by simpa [did] using h), hT⟩
    · obtain ⟨p0, p1, p2, p3⟩ := cells4w (HX.out.below hT HX.out.lt)
      simp [go_sem, evS, f3, p0, p1, p2, p3]
      exact ⟨fun h => by simpa [sput] using h0 (by simpa [did] using h), fun h => by simpa [sput] using h1 (by simpa [did] using h), fun h => by simpa [sput] using h2 (by simpa [did] using h), fun h => by simpa [sput] using h3 (by simpa [did] using h), fun _ => by simp [sput], fun h => by simpa [sput] using h5 (by simpa [did] using h), fun h => by simpa [sput] using h6 (by simpa [did] using h), fun h => by simpa [sput] using h7 (by simpa [did] using h), fun h => by simpa [sput] using h8 (by simpa [did] using h), fun h => by simpa [sput] using h9 (by simpa [did] using h), fun h => by simpa [sput] using h10 (by simpa [did] using h), fun h => by simpa [sput] using h11 (by simpa [did] using h), hT⟩
    · simp [go_sem, evS, f0]
      exact ⟨fun h => by simpa [sput] using h0 (by simpa [did] using h), fun h => by simpa [sput] using h1 (by simpa [did] using h), fun h => by simpa [sput] using h2 (by simpa [did] using h), fun h => by simpa [sput] using h3 (by simpa [did] using h), fun h => by simpa [sput] using h4 (by simpa [did] using h), fun _ => by simp [sput], fun h => by simpa [sput] using h6 (by simpa [did] using h), fun h => by simpa [sput] using h7 (by simpa [did] using h), fun h => by simpa [sput] using h8 (by simpa [did] using h), fun h => by simpa [sput] using h9 (by simpa [did] using h), fun h => by simpa [sput] using h10 (by simpa [did] using h), fun h => by simpa [sput] using h11 (by simpa [did] using h), hT⟩
    · have g4 := h4 (by simp [hdep])
      have g5 := h5 (by simp [hdep])
      simp [go_sem, evS, g4, g5]
      refine (HP.out W).mono ?_
      rintro e W' ⟨rfl, hb⟩
      refine ⟨_, rfl, ?_⟩
      exact ⟨fun h => by simpa [sput] using h0 (by simpa [did] using h), fun h => by simpa [sput] using h1 (by simpa [did] using h), fun h => by simpa [sput] using h2 (by simpa [did] using h), fun h => by simpa [sput] using h3 (by simpa [did] using h), fun h => by simpa [sput] using h4 (by simpa [did] using h), fun h => by simpa [sput] using h5 (by simpa [did] using h), fun _ => by simp [sput], fun h => by simpa [sput] using h7 (by simpa [did] using h), fun h => by simpa [sput] using h8 (by simpa [did] using h), fun h => by simpa [sput] using h9 (by simpa [did] using h), fun h => by simpa [sput] using h10 (by simpa [did] using h), fun h => by simpa [sput] using h11 (by simpa [did] using h), below_nx hT hb⟩
    · have g3 := h3 (by simp [hdep])
      have g6 := h6 (by simp [hdep])
      simp [go_sem, evS, g3, g6, b2]
      exact ⟨fun h => by simpa [sput] using h0 (by simpa [did] using h), fun h => by simpa [sput] using h1 (by simpa [did] using h), fun h => by simpa [sput] using h2 (by simpa [did] using h), fun h => by simpa [sput] using h3 (by simpa [did] using h), fun h => by simpa [sput] using h4 (by simpa [did] using h), fun h => by simpa [sput] using h5 (by simpa [did] using h), fun h => by simpa [sput] using h6 (by simpa [did] using h), fun _ => by simp [sput], fun h => by simpa [sput] using h8 (by simpa [did] using h), fun h => by simpa [sput] using h9 (by simpa [did] using h), fun h => by simpa [sput] using h10 (by simpa [did] using h), fun h => by simpa [sput] using h11 (by simpa [did] using h), hT⟩
    · have g7 := h7 (by simp [hdep])
      have pc := cell_below HC.out hT
      simp [go_sem, evS, g7, pc]
      exact ⟨fun h => by simpa [sput] using h0 (by simpa [did] using h), fun h => by simpa [sput] using h1 (by simpa [did] using h), fun h => by simpa [sput] using h2 (by simpa [did] using h), fun h => by simpa [sput] using h3 (by simpa [did] using h), fun h => by simpa [sput] using h4 (by simpa [did] using h), fun h => by simpa [sput] using h5 (by simpa [did] using h), fun h => by simpa [sput] using h6 (by simpa [did] using h), fun h => by simpa [sput] using h7 (by simpa [did] using h), fun _ => by simp [sput], fun h => by simpa [sput] using h9 (by simpa [did] using h), fun h => by simpa [sput] using h10 (by simpa [did] using h), fun h => by simpa [sput] using h11 (by simpa [did] using h), hT⟩
    · have g1 := h1 (by simp [hdep])
      have g8 := h8 (by simp [hdep])
      simp [go_sem, evS, g1, g8]
      exact ⟨fun h => by simpa [sput] using h0 (by simpa [did] using h), fun h => by simpa [sput] using h1 (by simpa [did] using h), fun h => by simpa [sput] using h2 (by simpa [did] using h), fun h => by simpa [sput] using h3 (by simpa [did] using h), fun h => by simpa [sput] using h4 (by simpa [did] using h), fun h => by simpa [sput] using h5 (by simpa [did] using h), fun h => by simpa [sput] using h6 (by simpa [did] using h), fun h => by simpa [sput] using h7 (by simpa [did] using h), fun h => by simpa [sput] using h8 (by simpa [did] using h), fun _ => ⟨fres .mul W a x, by simp [sput], fres_comes _ _ _ _⟩, fun h => by simpa [sput] using h10 (by simpa [did] using h), fun h => by simpa [sput] using h11 (by simpa [did] using h), below_drewN hT _⟩
    · have g0 := h0 (by simp [hdep])
      have g9 := h9 (by simp [hdep])
      obtain ⟨p, gp, hp⟩ := g9
      simp [go_sem, evS, g0, gp]
      exact ⟨fun h => by simpa [sput] using h0 (by simpa [did] using h), fun h => by simpa [sput] using h1 (by simpa [did] using h), fun h => by simpa [sput] using h2 (by simpa [did] using h), fun h => by simpa [sput] using h3 (by simpa [did] using h), fun h => by simpa [sput] using h4 (by simpa [did] using h), fun h => by simpa [sput] using h5 (by simpa [did] using h), fun h => by simpa [sput] using h6 (by simpa [did] using h), fun h => by simpa [sput] using h7 (by simpa [did] using h), fun h => by simpa [sput] using h8 (by simpa [did] using h), fun h => by simpa [sput] using h9 (by simpa [did] using h), fun _ => ⟨p, fres .add W y p, by simp [sput], hp, fres_comes _ _ _ _⟩, fun h => by simpa [sput] using h11 (by simpa [did] using h), below_drewN hT _⟩
    · have g10 := h10 (by simp [hdep])
      obtain ⟨p, r, gp, hp⟩ := g10
      simp [go_sem, evS, gp]
      exact ⟨fun h => by simpa [sput] using h0 (by simpa [did] using h), fun h => by simpa [sput] using h1 (by simpa [did] using h), fun h => by simpa [sput] using h2 (by simpa [did] using h), fun h => by simpa [sput] using h3 (by simpa [did] using h), fun h => by simpa [sput] using h4 (by simpa [did] using h), fun h => by simpa [sput] using h5 (by simpa [did] using h), fun h => by simpa [sput] using h6 (by simpa [did] using h), fun h => by simpa [sput] using h7 (by simpa [did] using h), fun h => by simpa [sput] using h8 (by simpa [did] using h), fun h => by simpa [sput] using h9 (by simpa [did] using h), fun h => by simpa [sput] using h10 (by simpa [did] using h), fun _ => ⟨p, r, by simp [sput], hp⟩, hT⟩
  intro d s W hJ hd
  obtain ⟨h0, h1, h2, h3, h4, h5, h6, h7, h8, h9, h10, h11, hT⟩ := hJ
  obtain ⟨p, r, hs, hp, hr⟩ := h11 (hd 11 (by decide))
  have HR := Lib.hid (And.intro hp hr)
  have HBe := Lib.hid hT
  clear h0 h1 h2 h3 h4 h5 h6 h7 h8 h9 h10 h11 hT hd hp hr
  simp [setAll, hs]
  clear hs
  go_wp2_with fail
  go_ret
  exact ⟨p, r, rfl, HR.out.1, HR.out.2, HBe.out⟩
/-- What Shift does to a number. -/
theorem axshift_one (y k : Nat) (z : Int) (pk b y0 n c : Nat) (w : World) (hk : w.cell? ⟨pk, 0, none⟩ = some (.slice (some ⟨b, y0, none⟩) n c))
    (hc : w.cell? ⟨b, y0 + k, none⟩ = some (.int .i64 z)) (hP : k < n) (hy : y < 18446744073709551616) :
    Calls Try.prog 61 #[.int .i64 (k : Int), .float .f64 y, .pointer (some ⟨pk, 0, none⟩)] w fun e w' => e = .returned (.float .f64 (Fl.scale y z)) ∧ Below w.heap.size w w' := by
  have b1 : (k : Int) < (n : Int) := by omega
  have b0 : (0 : Int) ≤ (k : Int) := by omega
  have HSc := Lib.hid (fun W => scale_any y z W hy)
  clear hy
  go_enter Try.func61, Try.ntmps61
  go_wp2_with fail
  refine (HSc.out _).mono ?_
  rintro e w1 ⟨rfl, hb⟩
  have HB := Lib.hid hb
  clear hb
  go_wp2_with fail
  go_ret
  exact ⟨rfl, HB.out⟩
end Go.Proofs.Ytjjneiidggcfdaa
set_option linter.unusedVariables false
set_option linter.unusedSimpArgs false
set_option linter.unnecessarySimpa false
namespace Go.Proofs.Ytjjneiidggcfdaa
open Go.RowKit
attribute [local go_sem ↓] Go.wp_at_zero Go.wp_at_succ

theorem wrt_more (l : List Nat) (o i : Nat) (m : List Nat) (x : Nat) : ∀ k, k ≤ m.length → wrt l o i (m ++ [x]) k = wrt l o i m k
  | 0, _ => rfl
  | k + 1, h => by
    show (wrt l o i (m ++ [x]) k).set (o + k * i) ((m ++ [x]).getD k 0) = (wrt l o i m k).set (o + k * i) (m.getD k 0)
    rw [wrt_more l o i m x k (by omega)]
    congr 1
    simp [List.getD, List.getElem?_append_left (show k < m.length by omega)]
theorem wrt_last (l : List Nat) (o i : Nat) (m : List Nat) (x k : Nat) (h : m.length = k) : wrt l o i (m ++ [x]) (k + 1) = (wrt l o i m k).set (o + k * i) x := by
  show (wrt l o i (m ++ [x]) k).set (o + k * i) ((m ++ [x]).getD k 0) = _
  rw [wrt_more l o i m x k (by omega)]
  congr 1
  subst h
  simp [List.getD]
/-- One number has been stored. -/
def Stored (g P : Nat) (R : Nat → Prop) (wr W : World) : Prop := ∃ W' r, Below wr.heap.size wr W' ∧ W = W'.setCell ⟨g, P, none⟩ (.float .f64 r) ∧ R r
/-- Each number has become what was asked. -/
def Eached (I : World → Prop) (R : Nat → Nat → Prop) (g : Nat) (l : List Nat) (o i K : Nat) (w : World) (e : Ending) (w' : World) : Prop :=
  e = .returned (.tuple #[]) ∧ ∃ m : List Nat, m.length = K ∧ (∀ q, q < K → R q (m.getD q 0)) ∧ Own w' g (wrt l o i m K) ∧ I w' ∧ Chg [g] w w'
theorem frz_below {W W' : World} {b o : Nat} (h : W.frozen? ⟨b, o, none⟩ = false) (hlt : b < W.heap.size) (hb : Below W.heap.size W W') : W'.frozen? ⟨b, o, none⟩ = false := (hb.frozen (p := ⟨b, o, none⟩) hlt).trans h

set_option maxRecDepth 100000 in
set_option maxHeartbeats 1000000 in
theorem each_any (F : FuncId) (caps : Array Value) (I : World → Prop) (R : Nat → Nat → Prop) (g n c : Nat) (l : List Nat) (o K i : Nat) (w : World)
    (hF : ∀ args W, (callFunc F args).run Try.prog W = .ok (.enter F args) W) (hO : Own w g l) (hl : l.length = n) (hn : n < 1048576) (hi1 : 1 ≤ i) (hr : K = 0 ∨ o + (K - 1) * i < n) (hI : I w)
    (hIb : ∀ W W', I W → Below W.heap.size W W' → I W') (hIs : ∀ W q v, q < K → I W → I (W.setCell ⟨g, o + q * i, none⟩ (.float .f64 v)))
    (hC : ∀ W q, q < K → I W → Calls Try.prog F (#[.int .i64 (q : Int), .float .f64 (l.getD (o + q * i) 0)] ++ caps) W fun e w' => ∃ r, e = .returned (.float .f64 r) ∧ R q r ∧ Below W.heap.size W w') :
    Calls Try.prog 54 #[vec (some ⟨g, 0, none⟩) n c o K i, .func (.func F) #[] caps] w (Eached I R g l o i K w) := by
  have HRn := Lib.hid (fun a (h : a < K) => show o + a * i < n from by
    rcases hr with h0 | h0
    · omega
    · exact place_lt h0 h)
  have hK : K ≤ n := by
    rcases hr with h0 | h0
    · omega
    · have : K - 1 ≤ (K - 1) * i := Nat.le_mul_of_pos_right _ hi1
      omega
  have HF := Lib.hid hF
  have HO := Lib.hid hO
  have Hl := Lib.hid hl
  have HI0 := Lib.hid hI
  have HIb := Lib.hid hIb
  have HIs := Lib.hid hIs
  have HCa := Lib.hid hC
  have Hi1 := Lib.hid hi1
  have HPl := Lib.hid (fun a (h : a < K) W => axplace_any (some ⟨g, 0, none⟩) n c o K i a W (by have := HRn.out a h; omega))
  clear hF hO hl hI hIb hIs hC hr hi1
  unfold vec at *
  go_enter Try.func54, Try.ntmps54
  have HZ := Lib.hid (Blk.new w 30 #[.slice (some ⟨g, 0, none⟩) n c, .int .i64 o, .int .i64 K, .int .i64 i])
  have hbl0 : Below w.heap.size w _ := (Below.refl w.heap.size w).alloc (Nat.le_refl _) (.cells #[.slice (some ⟨g, 0, none⟩) n c, .int .i64 o, .int .i64 K, .int .i64 i] 30)
  have HO1 := Lib.hid (HO.out.nxt hbl0)
  have HI1 := Lib.hid (HIb.out _ _ HI0.out hbl0)
  have HC1 := Lib.hid (Chg.of_below (G := [g]) hbl0)
  have Hgz := Lib.hid (show g < w.heap.size from HO.out.lt)
  clear hbl0
  go_wp2_with fail
  generalize hz : w.heap.size = z at *
  have Hz := Lib.hid hz
  clear hz
  go_loopw [8] (fun a wr => ∃ (q : Nat) (m : List Nat), q ≤ K ∧ a = .int .i64 q ∧ Hid (m.length = q ∧ (∀ j, j < q → R j (m.getD j 0)) ∧ Own wr g (wrt l o i m q) ∧ I wr ∧ Chg [g] w wr ∧ Blk wr z 30 #[.slice (some ⟨g, 0, none⟩) n c, .int .i64 o, .int .i64 K, .int .i64 i])) (fun a _ => K - (intOf a).toNat)
  case atStart => exact ⟨0, [], Nat.zero_le _, rfl, Lib.hid ⟨rfl, fun j h => by omega, HO1.out, HI1.out, HC1.out, HZ.out⟩⟩
  case round =>
    obtain ⟨q, m, hq, rfl, HH⟩ := hrel
    have HZ1 := Lib.hid HH.out.2.2.2.2.2
    obtain ⟨c0, c1, c2, c3⟩ := cells4w HZ1.out
    by_cases hlt : q < K
    · have hP := HRn.out q hlt
      have HC0 := Lib.hid (fun W (h : I W) => HCa.out W q hlt h)
      have hyv : (wrt l o i m q).getD (o + q * i) 0 = l.getD (o + q * i) 0 := wrt_else l o i m q (fun j hj e => by have := place_inj Hi1.out e; omega)
      have hPl : o + q * i < (wrt l o i m q).length := by rw [wrt_length, Hl.out]; exact hP
      have hce := HH.out.2.2.1.get _ hPl
      have hfz := HH.out.2.2.1.frozen (o + q * i)
      rw [← getD_of_lt hPl, hyv] at hce
      have HDone0 := Lib.hid (show ∀ r, R q r → ∀ W', Below wr.heap.size wr W' → Hid ((m ++ [r]).length = q + 1 ∧ (∀ j, j < q + 1 → R j ((m ++ [r]).getD j 0)) ∧ Own (W'.setCell ⟨g, o + q * i, none⟩ (.float .f64 r)) g (wrt l o i (m ++ [r]) (q + 1)) ∧ I (W'.setCell ⟨g, o + q * i, none⟩ (.float .f64 r)) ∧ Chg [g] w (W'.setCell ⟨g, o + q * i, none⟩ (.float .f64 r)) ∧ Blk (W'.setCell ⟨g, o + q * i, none⟩ (.float .f64 r)) z 30 #[.slice (some ⟨g, 0, none⟩) n c, .int .i64 o, .int .i64 K, .int .i64 i]) from fun r hr W' hb => Lib.hid (by
        obtain ⟨e1, e2, e3, e4, e5, e6⟩ := HH.out
        refine ⟨by simp [e1], fun j hj => ?_, ?_, HIs.out _ _ _ hlt (HIb.out _ _ e4 hb), (e5.nxt hb).set_in (by simp) _, (e6.nxt hb).other (by show z ≠ g; have := Hgz.out; omega) _⟩
        · by_cases h : j < q
          · have : (m ++ [r]).getD j 0 = m.getD j 0 := by simp [List.getD, List.getElem?_append_left (show j < m.length by omega)]
            rw [this]; exact e2 j h
          · obtain rfl : j = q := by omega
            have : (m ++ [r]).getD j 0 = r := by simp [List.getD, ← e1]
            rw [this]; exact hr
        · rw [wrt_last l o i m r q e1]
          exact (e3.nxt hb).set_ _ _ hPl))
      obtain ⟨y, hy⟩ : ∃ y, l.getD (o + q * i) 0 = y := ⟨_, rfl⟩
      rw [hy] at HC0 hce
      have HPq := Lib.hid (HPl.out q hlt)
      obtain ⟨P, hPd⟩ : ∃ P, o + q * i = P := ⟨_, rfl⟩
      rw [hPd] at HPq hP hce hfz HDone0
      have HI := Lib.hid HH.out.2.2.2.1
      have hqK : (q : Int) < (K : Int) := by omega
      have hq1 : q + 1 ≤ 1048576 := by omega
      have b2 := hP
      have HCe0 := Lib.hid hce
      have HFz0 := Lib.hid hfz
      clear hyv hPl hy hPd hce hfz hP
      go_wp2_with fail
      refine (HPq.out _).mono ?_
      rintro e wp ⟨rfl, hbp⟩
      have HDone := Lib.hid (fun r hr W' (hb : Below wp.heap.size wp W') => HDone0.out r hr W' (below_nx hbp hb))
      have HCe := Lib.hid (cell_below HCe0.out hbp)
      have hlt0 : g < wp.heap.size := block_lt HCe.out
      have HFz := Lib.hid (frz_below HFz0.out (block_lt HCe0.out) hbp)
      have HC := HC0
      have HIp := Lib.hid (HIb.out _ _ HI.out hbp)
      have HZ2 := Lib.hid (HZ1.out.nxt hbp)
      have HI := HIp
      clear hbp c0 c1 c2 c3 HIp
      obtain ⟨c0, c1, c2, c3⟩ := cells4w HZ2.out
      generalize wp = wr at *
      go_wp2_with fail
      refine wp_region_inv [14, 15, 16, 17, 18, 19, 20, 21, 22, 23, 24, 25] (fun d s W => (d 0 = true → s 14 = .pointer (some ⟨z, 0, none⟩)) ∧ (d 1 = true → s 15 = .slice (some ⟨g, 0, none⟩) n c) ∧ (d 2 = true → s 16 = .int .i64 (P : Int)) ∧ (d 3 = true → s 17 = .func (.func F) #[] caps) ∧ (d 4 = true → s 18 = .int .i64 (q : Int)) ∧ (d 5 = true → s 19 = .pointer (some ⟨z, 0, none⟩)) ∧ (d 6 = true → s 20 = .slice (some ⟨g, 0, none⟩) n c) ∧ (d 7 = true → s 21 = .int .i64 (P : Int)) ∧ (d 8 = true → s 22 = .pointer (some ⟨g, P, none⟩)) ∧ (d 9 = true → s 23 = .float .f64 y) ∧ (d 10 = true → ∃ r, s 24 = .float .f64 r ∧ R q r) ∧ (d 11 = true → s 25 = .pointer (some ⟨g, P, none⟩)) ∧ (d 1 = true → d 0 = true) ∧ (d 6 = true → d 5 = true) ∧ (d 8 = true → d 5 = true ∧ d 6 = true ∧ d 7 = true) ∧ (d 9 = true → d 5 = true ∧ d 6 = true ∧ d 7 = true ∧ d 8 = true) ∧ (d 10 = true → d 3 = true ∧ d 4 = true ∧ d 5 = true ∧ d 6 = true ∧ d 7 = true ∧ d 8 = true ∧ d 9 = true) ∧ (d 11 = true → d 0 = true ∧ d 1 = true ∧ d 2 = true) ∧ (d 12 = true → d 0 = true ∧ d 1 = true ∧ d 2 = true ∧ d 3 = true ∧ d 4 = true ∧ d 5 = true ∧ d 6 = true ∧ d 7 = true ∧ d 8 = true ∧ d 9 = true ∧ d 10 = true ∧ d 11 = true) ∧ ((d 12 = false → Below wr.heap.size wr W) ∧ (d 12 = true → Stored g P (R q) wr W)))
        rfl (by kernel_rfl) ?_ ?_ ?_
      · exact ⟨by simp, by simp, by simp, by simp, by simp, by simp, by simp, by simp, by simp, by simp, by simp, by simp, by simp, by simp, by simp, by simp, by simp, by simp, by simp, ⟨fun _ => (Below.refl _ _).drew, fun h => by simp at h⟩⟩
      · refine ⟨?_, ?_, ?_, ?_, ?_, ?_, ?_, ?_, ?_, ?_, ?_, ?_, ?_, trivial⟩
        all_goals
          intro d s W hJ hfr hd hdep
          simp only [List.mem_cons, forall_eq_or_imp, List.not_mem_nil, false_implies, implies_true, and_true, Region.binds] at hdep
          have f1 := hfr 1 (by decide)
          have f2 := hfr 2 (by decide)
          have f4 := hfr 4 (by decide)
          have f5 := hfr 5 (by decide)
          simp at f1 f2 f4 f5 hdep
          obtain ⟨h0, h1, h2, h3, h4, h5, h6, h7, h8, h9, h10, h11, x0, x1, x2, x3, x4, x5, x6, hT⟩ := hJ
          have hT0 := hT
          unfold OpSteps
        · have hl : d 12 = false := by
            cases h : d 12
            · rfl
            · have := x6 h; simp [hd] at this
          replace hT := hT.1 hl
          simp [go_sem, evS, f2]
          exact ⟨fun _ => by simp [sput], fun h => by simpa [sput] using h1 (by simpa [did] using h), fun h => by simpa [sput] using h2 (by simpa [did] using h), fun h => by simpa [sput] using h3 (by simpa [did] using h), fun h => by simpa [sput] using h4 (by simpa [did] using h), fun h => by simpa [sput] using h5 (by simpa [did] using h), fun h => by simpa [sput] using h6 (by simpa [did] using h), fun h => by simpa [sput] using h7 (by simpa [did] using h), fun h => by simpa [sput] using h8 (by simpa [did] using h), fun h => by simpa [sput] using h9 (by simpa [did] using h), fun h => by simpa [sput] using h10 (by simpa [did] using h), fun h => by simpa [sput] using h11 (by simpa [did] using h), fun h => by have := x0 (by simpa [did] using h); simp [did, this], fun h => by have := x1 (by simpa [did] using h); simp [did, this], fun h => by have := x2 (by simpa [did] using h); simp [did, this], fun h => by have := x3 (by simpa [did] using h); simp [did, this], fun h => by have := x4 (by simpa [did] using h); simp [did, this], fun h => by have := x5 (by simpa [did] using h); simp [did, this], fun h => by have := x6 (by simpa [did] using h); simp [did, this], ⟨fun _ => hT, fun h => by simp [did, hl] at h⟩⟩
        · have hl : d 12 = false := by
            cases h : d 12
            · rfl
            · have := x6 h; simp [hd] at this
          replace hT := hT.1 hl
          have g0 := h0 (by simp [hdep])
          obtain ⟨p0, p1, p2, p3⟩ := cells4w (HZ2.out.below hT HZ2.out.lt)
          simp [go_sem, evS, g0, p0, p1, p2, p3]
          exact ⟨fun h => by simpa [sput] using h0 (by simpa [did] using h), fun _ => by simp [sput], fun h => by simpa [sput] using h2 (by simpa [did] using h), fun h => by simpa [sput] using h3 (by simpa [did] using h), fun h => by simpa [sput] using h4 (by simpa [did] using h), fun h => by simpa [sput] using h5 (by simpa [did] using h), fun h => by simpa [sput] using h6 (by simpa [did] using h), fun h => by simpa [sput] using h7 (by simpa [did] using h), fun h => by simpa [sput] using h8 (by simpa [did] using h), fun h => by simpa [sput] using h9 (by simpa [did] using h), fun h => by simpa [sput] using h10 (by simpa [did] using h), fun h => by simpa [sput] using h11 (by simpa [did] using h), fun _ => by simp [did, hdep], fun h => by have := x1 (by simpa [did] using h); simp [did, this], fun h => by have := x2 (by simpa [did] using h); simp [did, this], fun h => by have := x3 (by simpa [did] using h); simp [did, this], fun h => by have := x4 (by simpa [did] using h); simp [did, this], fun h => by have := x5 (by simpa [did] using h); simp [did, this], fun h => by have := x6 (by simpa [did] using h); simp [did, this], ⟨fun _ => hT, fun h => by simp [did, hl] at h⟩⟩
        · have hl : d 12 = false := by
            cases h : d 12
            · rfl
            · have := x6 h; simp [hd] at this
          replace hT := hT.1 hl
          simp [go_sem, evS, f5]
          exact ⟨fun h => by simpa [sput] using h0 (by simpa [did] using h), fun h => by simpa [sput] using h1 (by simpa [did] using h), fun _ => by simp [sput], fun h => by simpa [sput] using h3 (by simpa [did] using h), fun h => by simpa [sput] using h4 (by simpa [did] using h), fun h => by simpa [sput] using h5 (by simpa [did] using h), fun h => by simpa [sput] using h6 (by simpa [did] using h), fun h => by simpa [sput] using h7 (by simpa [did] using h), fun h => by simpa [sput] using h8 (by simpa [did] using h), fun h => by simpa [sput] using h9 (by simpa [did] using h), fun h => by simpa [sput] using h10 (by simpa [did] using h), fun h => by simpa [sput] using h11 (by simpa [did] using h), fun h => by have := x0 (by simpa [did] using h); simp [did, this], fun h => by have := x1 (by simpa [did] using h); simp [did, this], fun h => by have := x2 (by simpa [did] using h); simp [did, this], fun h => by have := x3 (by simpa [did] using h); simp [did, this], fun h => by have := x4 (by simpa [did] using h); simp [did, this], fun h => by have := x5 (by simpa [did] using h); simp [did, this], fun h => by have := x6 (by simpa [did] using h); simp [did, this], ⟨fun _ => hT, fun h => by simp [did, hl] at h⟩⟩
        · have hl : d 12 = false := by
            cases h : d 12
            · rfl
            · have := x6 h; simp [hd] at this
          replace hT := hT.1 hl
          simp [go_sem, evS, f1]
          exact ⟨fun h => by simpa [sput] using h0 (by simpa [did] using h), fun h => by simpa [sput] using h1 (by simpa [did] using h), fun h => by simpa [sput] using h2 (by simpa [did] using h), fun _ => by simp [sput], fun h => by simpa [sput] using h4 (by simpa [did] using h), fun h => by simpa [sput] using h5 (by simpa [did] using h), fun h => by simpa [sput] using h6 (by simpa [did] using h), fun h => by simpa [sput] using h7 (by simpa [did] using h), fun h => by simpa [sput] using h8 (by simpa [did] using h), fun h => by simpa [sput] using h9 (by simpa [did] using h), fun h => by simpa [sput] using h10 (by simpa [did] using h), fun h => by simpa [sput] using h11 (by simpa [did] using h), fun h => by have := x0 (by simpa [did] using h); simp [did, this], fun h => by have := x1 (by simpa [did] using h); simp [did, this], fun h => by have := x2 (by simpa [did] using h); simp [did, this], fun h => by have := x3 (by simpa [did] using h); simp [did, this], fun h => by have := x4 (by simpa [did] using h); simp [did, this], fun h => by have := x5 (by simpa [did] using h); simp [did, this], fun h => by have := x6 (by simpa [did] using h); simp [did, this], ⟨fun _ => hT, fun h => by simp [did, hl] at h⟩⟩
        · have hl : d 12 = false := by
            cases h : d 12
            · rfl
            · have := x6 h; simp [hd] at this
          replace hT := hT.1 hl
          simp [go_sem, evS, f4]
          exact ⟨fun h => by simpa [sput] using h0 (by simpa [did] using h), fun h => by simpa [sput] using h1 (by simpa [did] using h), fun h => by simpa [sput] using h2 (by simpa [did] using h), fun h => by simpa [sput] using h3 (by simpa [did] using h), fun _ => by simp [sput], fun h => by simpa [sput] using h5 (by simpa [did] using h), fun h => by simpa [sput] using h6 (by simpa [did] using h), fun h => by simpa [sput] using h7 (by simpa [did] using h), fun h => by simpa [sput] using h8 (by simpa [did] using h), fun h => by simpa [sput] using h9 (by simpa [did] using h), fun h => by simpa [sput] using h10 (by simpa [did] using h), fun h => by simpa [sput] using h11 (by simpa [did] using h), fun h => by have := x0 (by simpa [did] using h); simp [did, this], fun h => by have := x1 (by simpa [did] using h); simp [did, this], fun h => by have := x2 (by simpa [did] using h); simp [did, this], fun h => by have := x3 (by simpa [did] using h); simp [did, this], fun h => by have := x4 (by simpa [did] using h); simp [did, this], fun h => by have := x5 (by simpa [did] using h); simp [did, this], fun h => by have := x6 (by simpa [did] using h); simp [did, this], ⟨fun _ => hT, fun h => by simp [did, hl] at h⟩⟩
        · have hl : d 12 = false := by
            cases h : d 12
            · rfl
            · have := x6 h; simp [hd] at this
          replace hT := hT.1 hl
          simp [go_sem, evS, f2]
          exact ⟨fun h => by simpa [sput] using h0 (by simpa [did] using h), fun h => by simpa [sput] using h1 (by simpa [did] using h), fun h => by simpa [sput] using h2 (by simpa [did] using h), fun h => by simpa [sput] using h3 (by simpa [did] using h), fun h => by simpa [sput] using h4 (by simpa [did] using h), fun _ => by simp [sput], fun h => by simpa [sput] using h6 (by simpa [did] using h), fun h => by simpa [sput] using h7 (by simpa [did] using h), fun h => by simpa [sput] using h8 (by simpa [did] using h), fun h => by simpa [sput] using h9 (by simpa [did] using h), fun h => by simpa [sput] using h10 (by simpa [did] using h), fun h => by simpa [sput] using h11 (by simpa [did] using h), fun h => by have := x0 (by simpa [did] using h); simp [did, this], fun h => by have := x1 (by simpa [did] using h); simp [did, this], fun h => by have := x2 (by simpa [did] using h); simp [did, this], fun h => by have := x3 (by simpa [did] using h); simp [did, this], fun h => by have := x4 (by simpa [did] using h); simp [did, this], fun h => by have := x5 (by simpa [did] using h); simp [did, this], fun h => by have := x6 (by simpa [did] using h); simp [did, this], ⟨fun _ => hT, fun h => by simp [did, hl] at h⟩⟩
        · have hl : d 12 = false := by
            cases h : d 12
            · rfl
            · have := x6 h; simp [hd] at this
          replace hT := hT.1 hl
          have g5 := h5 (by simp [hdep])
          obtain ⟨p0, p1, p2, p3⟩ := cells4w (HZ2.out.below hT HZ2.out.lt)
          simp [go_sem, evS, g5, p0, p1, p2, p3]
          exact ⟨fun h => by simpa [sput] using h0 (by simpa [did] using h), fun h => by simpa [sput] using h1 (by simpa [did] using h), fun h => by simpa [sput] using h2 (by simpa [did] using h), fun h => by simpa [sput] using h3 (by simpa [did] using h), fun h => by simpa [sput] using h4 (by simpa [did] using h), fun h => by simpa [sput] using h5 (by simpa [did] using h), fun _ => by simp [sput], fun h => by simpa [sput] using h7 (by simpa [did] using h), fun h => by simpa [sput] using h8 (by simpa [did] using h), fun h => by simpa [sput] using h9 (by simpa [did] using h), fun h => by simpa [sput] using h10 (by simpa [did] using h), fun h => by simpa [sput] using h11 (by simpa [did] using h), fun h => by have := x0 (by simpa [did] using h); simp [did, this], fun _ => by simp [did, hdep], fun h => by have := x2 (by simpa [did] using h); simp [did, this], fun h => by have := x3 (by simpa [did] using h); simp [did, this], fun h => by have := x4 (by simpa [did] using h); simp [did, this], fun h => by have := x5 (by simpa [did] using h); simp [did, this], fun h => by have := x6 (by simpa [did] using h); simp [did, this], ⟨fun _ => hT, fun h => by simp [did, hl] at h⟩⟩
        · have hl : d 12 = false := by
            cases h : d 12
            · rfl
            · have := x6 h; simp [hd] at this
          replace hT := hT.1 hl
          simp [go_sem, evS, f5]
          exact ⟨fun h => by simpa [sput] using h0 (by simpa [did] using h), fun h => by simpa [sput] using h1 (by simpa [did] using h), fun h => by simpa [sput] using h2 (by simpa [did] using h), fun h => by simpa [sput] using h3 (by simpa [did] using h), fun h => by simpa [sput] using h4 (by simpa [did] using h), fun h => by simpa [sput] using h5 (by simpa [did] using h), fun h => by simpa [sput] using h6 (by simpa [did] using h), fun _ => by simp [sput], fun h => by simpa [sput] using h8 (by simpa [did] using h), fun h => by simpa [sput] using h9 (by simpa [did] using h), fun h => by simpa [sput] using h10 (by simpa [did] using h), fun h => by simpa [sput] using h11 (by simpa [did] using h), fun h => by have := x0 (by simpa [did] using h); simp [did, this], fun h => by have := x1 (by simpa [did] using h); simp [did, this], fun h => by have := x2 (by simpa [did] using h); simp [did, this], fun h => by have := x3 (by simpa [did] using h); simp [did, this], fun h => by have := x4 (by simpa [did] using h); simp [did, this], fun h => by have := x5 (by simpa [did] using h); simp [did, this], fun h => by have := x6 (by simpa [did] using h); simp [did, this], ⟨fun _ => hT, fun h => by simp [did, hl] at h⟩⟩
        · have hl : d 12 = false := by
            cases h : d 12
            · rfl
            · have := x6 h; simp [hd] at this
          replace hT := hT.1 hl
          have g6 := h6 (by simp [hdep])
          have g7 := h7 (by simp [hdep])
          simp [go_sem, evS, g6, g7, b2]
          exact ⟨fun h => by simpa [sput] using h0 (by simpa [did] using h), fun h => by simpa [sput] using h1 (by simpa [did] using h), fun h => by simpa [sput] using h2 (by simpa [did] using h), fun h => by simpa [sput] using h3 (by simpa [did] using h), fun h => by simpa [sput] using h4 (by simpa [did] using h), fun h => by simpa [sput] using h5 (by simpa [did] using h), fun h => by simpa [sput] using h6 (by simpa [did] using h), fun h => by simpa [sput] using h7 (by simpa [did] using h), fun _ => by simp [sput], fun h => by simpa [sput] using h9 (by simpa [did] using h), fun h => by simpa [sput] using h10 (by simpa [did] using h), fun h => by simpa [sput] using h11 (by simpa [did] using h), fun h => by have := x0 (by simpa [did] using h); simp [did, this], fun h => by have := x1 (by simpa [did] using h); simp [did, this], fun _ => by have y6 := x1 (by simp [hdep]); simp [did, hdep, y6], fun h => by have := x3 (by simpa [did] using h); simp [did, this], fun h => by have := x4 (by simpa [did] using h); simp [did, this], fun h => by have := x5 (by simpa [did] using h); simp [did, this], fun h => by have := x6 (by simpa [did] using h); simp [did, this], ⟨fun _ => hT, fun h => by simp [did, hl] at h⟩⟩
        · have hl : d 12 = false := by
            cases h : d 12
            · rfl
            · have := x6 h; simp [hd] at this
          replace hT := hT.1 hl
          have g8 := h8 (by simp [hdep])
          have pc := cell_below HCe.out hT
          simp [go_sem, evS, g8, pc]
          exact ⟨fun h => by simpa [sput] using h0 (by simpa [did] using h), fun h => by simpa [sput] using h1 (by simpa [did] using h), fun h => by simpa [sput] using h2 (by simpa [did] using h), fun h => by simpa [sput] using h3 (by simpa [did] using h), fun h => by simpa [sput] using h4 (by simpa [did] using h), fun h => by simpa [sput] using h5 (by simpa [did] using h), fun h => by simpa [sput] using h6 (by simpa [did] using h), fun h => by simpa [sput] using h7 (by simpa [did] using h), fun h => by simpa [sput] using h8 (by simpa [did] using h), fun _ => by simp [sput], fun h => by simpa [sput] using h10 (by simpa [did] using h), fun h => by simpa [sput] using h11 (by simpa [did] using h), fun h => by have := x0 (by simpa [did] using h); simp [did, this], fun h => by have := x1 (by simpa [did] using h); simp [did, this], fun h => by have := x2 (by simpa [did] using h); simp [did, this], fun _ => by have y8 := x2 (by simp [hdep]); simp [did, hdep, y8], fun h => by have := x4 (by simpa [did] using h); simp [did, this], fun h => by have := x5 (by simpa [did] using h); simp [did, this], fun h => by have := x6 (by simpa [did] using h); simp [did, this], ⟨fun _ => hT, fun h => by simp [did, hl] at h⟩⟩
        · have hl : d 12 = false := by
            cases h : d 12
            · rfl
            · have := x6 h; simp [hd] at this
          replace hT := hT.1 hl
          have g3 := h3 (by simp [hdep])
          have g4 := h4 (by simp [hdep])
          have g9 := h9 (by simp [hdep])
          simp [go_sem, evS, g3, g4, g9, HF.out]
          refine (HC.out W (HIb.out _ _ HI.out hT)).mono ?_
          rintro e W' ⟨r, rfl, hr, hb⟩
          refine ⟨_, rfl, ?_⟩
          exact ⟨fun h => by simpa [sput] using h0 (by simpa [did] using h), fun h => by simpa [sput] using h1 (by simpa [did] using h), fun h => by simpa [sput] using h2 (by simpa [did] using h), fun h => by simpa [sput] using h3 (by simpa [did] using h), fun h => by simpa [sput] using h4 (by simpa [did] using h), fun h => by simpa [sput] using h5 (by simpa [did] using h), fun h => by simpa [sput] using h6 (by simpa [did] using h), fun h => by simpa [sput] using h7 (by simpa [did] using h), fun h => by simpa [sput] using h8 (by simpa [did] using h), fun h => by simpa [sput] using h9 (by simpa [did] using h), fun _ => ⟨r, by simp [sput], hr⟩, fun h => by simpa [sput] using h11 (by simpa [did] using h), fun h => by have := x0 (by simpa [did] using h); simp [did, this], fun h => by have := x1 (by simpa [did] using h); simp [did, this], fun h => by have := x2 (by simpa [did] using h); simp [did, this], fun h => by have := x3 (by simpa [did] using h); simp [did, this], fun _ => by have y9 := x3 (by simp [hdep]); simp [did, hdep, y9], fun h => by have := x5 (by simpa [did] using h); simp [did, this], fun h => by have := x6 (by simpa [did] using h); simp [did, this], ⟨fun _ => below_nx hT hb, fun h => by simp [did, hl] at h⟩⟩
        · have hl : d 12 = false := by
            cases h : d 12
            · rfl
            · have := x6 h; simp [hd] at this
          replace hT := hT.1 hl
          have g1 := h1 (by simp [hdep])
          have g2 := h2 (by simp [hdep])
          simp [go_sem, evS, g1, g2, b2]
          exact ⟨fun h => by simpa [sput] using h0 (by simpa [did] using h), fun h => by simpa [sput] using h1 (by simpa [did] using h), fun h => by simpa [sput] using h2 (by simpa [did] using h), fun h => by simpa [sput] using h3 (by simpa [did] using h), fun h => by simpa [sput] using h4 (by simpa [did] using h), fun h => by simpa [sput] using h5 (by simpa [did] using h), fun h => by simpa [sput] using h6 (by simpa [did] using h), fun h => by simpa [sput] using h7 (by simpa [did] using h), fun h => by simpa [sput] using h8 (by simpa [did] using h), fun h => by simpa [sput] using h9 (by simpa [did] using h), fun h => by simpa [sput] using h10 (by simpa [did] using h), fun _ => by simp [sput], fun h => by have := x0 (by simpa [did] using h); simp [did, this], fun h => by have := x1 (by simpa [did] using h); simp [did, this], fun h => by have := x2 (by simpa [did] using h); simp [did, this], fun h => by have := x3 (by simpa [did] using h); simp [did, this], fun h => by have := x4 (by simpa [did] using h); simp [did, this], fun _ => by have y1 := x0 (by simp [hdep]); simp [did, hdep, y1], fun h => by have := x6 (by simpa [did] using h); simp [did, this], ⟨fun _ => hT, fun h => by simp [did, hl] at h⟩⟩
        · have g11 := h11 (by simp [hdep])
          have g10 := h10 (by simp [hdep])
          replace hT := hT.1 hd
          obtain ⟨r, gr, hr⟩ := g10
          have hfz := frz_below HFz.out hlt0 hT
          have hcl := cell_below HCe.out hT
          simp [go_sem, evS, g11, gr, hfz, hcl]
          exact ⟨fun h => by simpa [sput] using h0 (by simpa [did] using h), fun h => by simpa [sput] using h1 (by simpa [did] using h), fun h => by simpa [sput] using h2 (by simpa [did] using h), fun h => by simpa [sput] using h3 (by simpa [did] using h), fun h => by simpa [sput] using h4 (by simpa [did] using h), fun h => by simpa [sput] using h5 (by simpa [did] using h), fun h => by simpa [sput] using h6 (by simpa [did] using h), fun h => by simpa [sput] using h7 (by simpa [did] using h), fun h => by simpa [sput] using h8 (by simpa [did] using h), fun h => by simpa [sput] using h9 (by simpa [did] using h), fun h => by simpa [sput] using h10 (by simpa [did] using h), fun h => by simpa [sput] using h11 (by simpa [did] using h), fun h => by have := x0 (by simpa [did] using h); simp [did, this], fun h => by have := x1 (by simpa [did] using h); simp [did, this], fun h => by have := x2 (by simpa [did] using h); simp [did, this], fun h => by have := x3 (by simpa [did] using h); simp [did, this], fun h => by have := x4 (by simpa [did] using h); simp [did, this], fun h => by have := x5 (by simpa [did] using h); simp [did, this], fun _ => by have y10 := x4 (by simp [hdep]); have y11 := x5 (by simp [hdep]); simp [did, hdep, y10, y11], ⟨fun h => by simp [did] at h, fun _ => ⟨W, r, hT, rfl, hr⟩⟩⟩
      intro d s W hJ hd
      obtain ⟨h0, h1, h2, h3, h4, h5, h6, h7, h8, h9, h10, h11, x0, x1, x2, x3, x4, x5, x6, hT⟩ := hJ
      obtain ⟨W', r, hbw, rfl, hr⟩ := hT.2 (hd 12 (by decide))
      have HR := Lib.hid hr
      have HBw := Lib.hid hbw
      clear h0 h1 h2 h3 h4 h5 h6 h7 h8 h9 h10 h11 x0 x1 x2 x3 x4 x5 x6 hT hd hbw hr
      simp [setAll]
      generalize s 14 = s14
      generalize s 15 = s15
      generalize s 16 = s16
      generalize s 17 = s17
      generalize s 18 = s18
      generalize s 19 = s19
      generalize s 20 = s20
      generalize s 21 = s21
      generalize s 22 = s22
      generalize s 23 = s23
      generalize s 24 = s24
      generalize s 25 = s25
      go_wp2_with fail
      go_roundw
      case rel => exact ⟨q + 1, m ++ [r], by omega, by go_num, HDone.out r HR.out W' HBw.out⟩
      case measure => simp [intOf]; omega
    · obtain rfl : q = K := by omega
      have hqc : ¬ (q : Int) < (q : Int) := by omega
      go_wp2_with fail
      go_end0
      obtain ⟨e1, e2, e3, e4, e5, e6⟩ := HH.out
      exact ⟨rfl, m, e1, e2, e3, e4, e5⟩
end Go.Proofs.Ytjjneiidggcfdaa
set_option linter.unusedVariables false
set_option linter.unusedSimpArgs false
namespace Go.Proofs.Ytjjneiidggcfdaa
open Go.RowKit
attribute [local go_sem ↓] Go.wp_at_zero Go.wp_at_succ

theorem axaxpy_enters : Enters Try.prog 55 := enters_of Try.func55 (by kernel_rfl) rfl

/-- What Axpy makes of a number. -/
def AxR (a : Nat) (l : List Nat) (o i : Nat) (l' : List Nat) (o' i' : Nat) (q r : Nat) : Prop := ∃ p, Comes .mul a (l'.getD (o' + q * i') 0) p ∧ Comes .add (l.getD (o + q * i) 0) p r

set_option maxRecDepth 100000 in
set_option maxHeartbeats 1000000 in
theorem axpy_ok (a g g' c c' : Nat) (l l' : List Nat) (n n' : Nat) (o K i o' i' : Nat) (w : World) (hO : Own w g l) (hO' : Own w g' l') (hln : l.length = n) (hln' : l'.length = n') (hn : n < 1048576) (hn' : n' < 1048576)
    (hi1 : 1 ≤ i) (hr : K = 0 ∨ o + (K - 1) * i < n) (hr' : K = 0 ∨ o' + (K - 1) * i' < n') (ho : I64 o) (hk : I64 K) (hi : I64 i) (ho' : I64 o') (hi' : I64 i') (hP : pairI (decide (g = g')) n o K i n' o' K i' = 0) (hm : g = g' → metB o i o' i' K = false) :
    Calls Try.prog 24 #[.float .f64 a, vec (some ⟨g', 0, none⟩) n' c' o' K i', vec (some ⟨g, 0, none⟩) n c o K i] w fun e w' => e = .returned (.int .i64 0) ∧
      ∃ m : List Nat, m.length = K ∧ (∀ q, q < K → AxR a l o i l' o' i' q (m.getD q 0)) ∧ Own w' g (wrt l o i m K) ∧ Chg [g] w w' := by
  have HPr := Lib.hid (fun W (hb : Below w.heap.size w W) => pair_any g g' c c' l l' n n' o K i o' K i' W (hO.nxt hb) (hO'.nxt hb) hln hln' (by omega) (by omega) ho hk hi ho' hk hi')
  rw [hP] at HPr
  have HRx := Lib.hid (fun q (h : q < K) => show o' + q * i' < n' from by
    rcases hr' with h0 | h0
    · omega
    · exact place_lt h0 h)
  have HEa := Lib.hid (fun W (ga z : Nat) (hb : Below w.heap.size w W) (hz : w.heap.size ≤ ga) (hz2 : w.heap.size ≤ z) (hA : W.cell? ⟨ga, 0, none⟩ = some (.float .f64 a)) (hX : Blk W z 30 #[.slice (some ⟨g', 0, none⟩) n' c', .int .i64 o', .int .i64 K, .int .i64 i']) =>
    each_any 55 #[.pointer (some ⟨ga, 0, none⟩), .pointer (some ⟨z, 0, none⟩)]
      (fun W => W.cell? ⟨ga, 0, none⟩ = some (.float .f64 a) ∧ Blk W z 30 #[.slice (some ⟨g', 0, none⟩) n' c', .int .i64 o', .int .i64 K, .int .i64 i'] ∧ ∀ q, q < K → W.cell? ⟨g', 0 + (o' + q * i'), none⟩ = some (.float .f64 (l'.getD (o' + q * i') 0)))
      (AxR a l o i l' o' i') g n c l o K i W (fun args W => axaxpy_enters args W) (hO.nxt hb) hln hn hi1 hr
      ⟨hA, hX, fun q hq => by
        have h1 := HRx.out q hq
        have h2 : o' + q * i' < l'.length := by omega
        rw [Nat.zero_add, getD_of_lt h2]
        exact (hO'.nxt hb).get _ h2⟩
      (fun W W' h hb' => ⟨cell_below h.1 hb', h.2.1.nxt hb', fun q hq => cell_below (h.2.2 q hq) hb'⟩)
      (fun W q v hq h => ⟨(cell_set (by have := hO.lt; omega) _).trans h.1, h.2.1.other (by show z ≠ g; have := hO.lt; omega) _, fun j hj => by
        by_cases e : g = g'
        · refine (World.cell?_setCell_other W _ _ _ ?_).trans (h.2.2 j hj)
          intro e2
          have := metB_false.1 (hm e) q hq j hj
          injection e2 with _ e3
          omega
        · exact (cell_set (fun e2 => e e2.symm) _).trans (h.2.2 j hj)⟩)
      (fun W q hq h => by
        have := axaxpy_one a (l'.getD (o' + q * i') 0) (l.getD (o + q * i) 0) ga z g' 0 n' c' o' K i' q W h.1 h.2.1 (h.2.2 q hq) (HRx.out q hq) hn'
        exact this.mono fun e w' ⟨p, r, e1, e2, e3, e4⟩ => ⟨r, e1, ⟨p, e2, e3⟩, e4⟩))
  clear hO hO' hln hln' hn hn' ho hk hi ho' hi' hP hr hr' hi1 hm HRx
  unfold vec at *
  go_enter Try.func24, Try.ntmps24
  have HA0 := Lib.hid (show _ from (((Blk.new w 25 #[.float .f64 a]).alloc (.cells #[.slice (some ⟨g', 0, none⟩) n' c', .int .i64 o', .int .i64 K, .int .i64 i'] 30)).alloc (.cells #[.slice (some ⟨g, 0, none⟩) n c, .int .i64 o, .int .i64 K, .int .i64 i] 30)).cell 0)
  have HB0 := Lib.hid ((((Below.refl w.heap.size w).alloc (Nat.le_refl _) (.cells #[.float .f64 a] 25)).alloc (by simp) (.cells #[.slice (some ⟨g', 0, none⟩) n' c', .int .i64 o', .int .i64 K, .int .i64 i'] 30)).alloc (by simp; omega) (.cells #[.slice (some ⟨g, 0, none⟩) n c, .int .i64 o, .int .i64 K, .int .i64 i] 30))
  have HX := Lib.hid ((Blk.new_ (w.alloc (.cells #[.float .f64 a] 25)) 30 #[.slice (some ⟨g', 0, none⟩) n' c', .int .i64 o', .int .i64 K, .int .i64 i'] (w.heap.size + 1) (by simp)).alloc (.cells #[.slice (some ⟨g, 0, none⟩) n c, .int .i64 o, .int .i64 K, .int .i64 i] 30))
  obtain ⟨x0, x1, x2, x3⟩ := cells4w HX.out
  have HY := Lib.hid (Blk.new_ ((w.alloc (.cells #[.float .f64 a] 25)).alloc (.cells #[.slice (some ⟨g', 0, none⟩) n' c', .int .i64 o', .int .i64 K, .int .i64 i'] 30)) 30 #[.slice (some ⟨g, 0, none⟩) n c, .int .i64 o, .int .i64 K, .int .i64 i] (w.heap.size + 1 + 1) (by simp))
  obtain ⟨y0, y1, y2, y3⟩ := cells4w HY.out
  go_wp2_with fail
  refine (HPr.out _ HB0.out).mono ?_
  rintro e w1 ⟨rfl, hb⟩
  have HB1 := Lib.hid (below_nx HB0.out hb)
  have HA1 := Lib.hid (cell_below HA0.out hb)
  have HX1 := Lib.hid (HX.out.nxt hb)
  have HY1 := Lib.hid (HY.out.nxt hb)
  clear hb x0 x1 x2 x3 y0 y1 y2 y3
  obtain ⟨y0, y1, y2, y3⟩ := cells4w HY1.out
  go_wp2_with fail
  refine (HEa.out _ _ _ HB1.out (Nat.le_refl _) (by omega) HA1.out HX1.out).mono ?_
  rintro e w2 ⟨rfl, m, hm1, hm2, hm3, hm4, hm5⟩
  have HM := Lib.hid (And.intro hm1 (And.intro hm2 (And.intro hm3 hm5)))
  clear hm1 hm2 hm3 hm4 hm5 y0 y1 y2 y3
  go_wp2_with fail
  go_ret
  exact ⟨rfl, m, HM.out.1, HM.out.2.1, HM.out.2.2.1, (Chg.of_below HB1.out).trans HM.out.2.2.2⟩
end Go.Proofs.Ytjjneiidggcfdaa
set_option linter.unusedVariables false
set_option linter.unusedSimpArgs false
set_option linter.unnecessarySimpa false
namespace Go.Proofs.Ytjjneiidggcfdaa
open Go.RowKit
attribute [local go_sem ↓] Go.wp_at_zero Go.wp_at_succ

theorem getD_wds {l : List Nat} (h : Wds l) (k : Nat) : l.getD k 0 < 18446744073709551616 := by
  rcases Nat.lt_or_ge k l.length with h1 | h1
  · rw [getD_of_lt h1]; exact h.at_ k h1
  · rw [getD_of_le h1]; omega
theorem Row.get0 {w : World} {A : Option Addr} {l : List Nat} {k : Nat} (h : Row w A (f64s l)) (hk : k < l.length) : ∃ b o, A = some ⟨b, o, none⟩ ∧ w.cell? ⟨b, o + k, none⟩ = some (.float .f64 (l.getD k 0)) := by
  obtain ⟨b, o, e, _, hc⟩ := h.at_ (f64s_get l k hk)
  exact ⟨b, o, e, by rw [getD_of_lt hk]; exact hc⟩

end Go.Proofs.Ytjjneiidggcfdaa
set_option linter.unusedVariables false
set_option linter.unusedSimpArgs false
namespace Go.Proofs.Ytjjneiidggcfdaa
open Go.RowKit
attribute [local go_sem ↓] Go.wp_at_zero Go.wp_at_succ

theorem axshift_enters : Enters Try.prog 61 := enters_of Try.func61 (by kernel_rfl) rfl
set_option maxHeartbeats 1000000 in
theorem axscal_err (a : Nat) (A : Option Addr) (n c : Nat) (off k inc : Int) (w : World) (hn : n < 9223372036854775808) (ho : I64 off) (hk : I64 k) (hi : I64 inc) (hv : vecB n off k inc = false) :
    Calls Try.prog 30 #[.float .f64 a, vec A n c off k inc] w fun e w' => e = .returned (.int .i64 1) ∧ Below w.heap.size w w' := by
  have HR := Lib.hid (fun W => right_any A n c off k inc W hn ho hk hi)
  rw [hv] at HR
  clear hn ho hk hi hv
  unfold vec at *
  go_enter Try.func30, Try.ntmps30
  have HB0 := Lib.hid (((Below.refl w.heap.size w).alloc (Nat.le_refl _) (.cells #[.float .f64 a] 25)).alloc (by simp) (.cells #[.slice A n c, .int .i64 off, .int .i64 k, .int .i64 inc] 30))
  have HX := Lib.hid (Blk.new_ (w.alloc (.cells #[.float .f64 a] 25)) 30 #[.slice A n c, .int .i64 off, .int .i64 k, .int .i64 inc] (w.heap.size + 1) (by simp))
  obtain ⟨x0, x1, x2, x3⟩ := cells4w HX.out
  go_wp2_with fail
  refine (HR.out _).mono ?_
  rintro e w1 ⟨rfl, hb⟩
  have HB1 := Lib.hid (below_nx HB0.out hb)
  clear hb x0 x1 x2 x3
  go_wp2_with fail
  go_ret
  exact ⟨rfl, HB1.out⟩

set_option maxHeartbeats 1000000 in
theorem axshift_ok (g c : Nat) (l : List Nat) (n o K i : Nat) (B : Option Addr) (kc : Nat) (zs : List Int) (w : World) (hO : Own w g l) (hW : Wds l) (hln : l.length = n) (hn : n < 1048576) (hZ : Row w B (i64s zs)) (hz : zs.length = K) (hBg : ∀ b y, B = some ⟨b, y, none⟩ → b ≠ g ∨ zs = [])
    (hi1 : 1 ≤ i) (hr : K = 0 ∨ o + (K - 1) * i < n) (ho : I64 o) (hk : I64 K) (hi : I64 i) (hv : vecB n o K i = true) :
    Calls Try.prog 31 #[vec (some ⟨g, 0, none⟩) n c o K i, .slice B K kc] w fun e w' => e = .returned (.int .i64 0) ∧
      ∃ m : List Nat, m.length = K ∧ (∀ q, q < K → m.getD q 0 = Fl.scale (l.getD (o + q * i) 0) (zs.getD q 0)) ∧ Own w' g (wrt l o i m K) ∧ Chg [g] w w' := by
  have HR := Lib.hid (fun W => right_any (some ⟨g, 0, none⟩) n c o K i W (by omega) ho hk hi)
  rw [hv] at HR
  have HEa := Lib.hid (fun W (ga : Nat) (hb : Below w.heap.size w W) (hzz : w.heap.size ≤ ga) (hA : W.cell? ⟨ga, 0, none⟩ = some (.slice B K kc)) =>
    each_any 61 #[.pointer (some ⟨ga, 0, none⟩)] (fun W => W.cell? ⟨ga, 0, none⟩ = some (.slice B K kc) ∧ Row W B (i64s zs)) (fun q r => r = Fl.scale (l.getD (o + q * i) 0) (zs.getD q 0)) g n c l o K i W
      (fun args W => axshift_enters args W) (hO.nxt hb) hln hn hi1 hr ⟨hA, hZ.below hb⟩ (fun W W' h hb' => ⟨cell_below h.1 hb', h.2.below hb'⟩)
      (fun W q v hq h => ⟨(cell_set (by have := hO.lt; omega) _).trans h.1, by
        rcases h.2 with h2 | ⟨b, y, e, hc⟩
        · exact .inl h2
        · rcases hBg b y e with h3 | h3
          · exact .inr ⟨b, y, e, fun j u hj => (cell_set h3 _).trans (hc j u hj)⟩
          · exact .inl (by rw [h3]; rfl)⟩)
      (fun W q hq h => by
        have hql : q < zs.length := by omega
        obtain ⟨b, y, e, _, hc⟩ := h.2.at_ (i64s_get zs q hql)
        have hg : zs.getD q 0 = zs[q] := by simp [List.getD, hql]
        rw [hg]
        subst e
        have := axshift_one (l.getD (o + q * i) 0) q zs[q] ga b y K kc W h.1 hc hq (getD_wds hW _)
        exact this.mono fun e w' ⟨e1, e2⟩ => ⟨_, e1, rfl, e2⟩))
  have hnn : ((K : Int) == (K : Int)) = true := by simp
  have hnn2 : ((K : Int) != (K : Int)) = false := by simp
  clear hO hln hn ho hk hi hr hi1 hv hZ hz hBg hW
  unfold vec at *
  go_enter Try.func31, Try.ntmps31
  have HB0 := Lib.hid (((Below.refl w.heap.size w).alloc (Nat.le_refl _) (.cells #[.slice (some ⟨g, 0, none⟩) n c, .int .i64 o, .int .i64 K, .int .i64 i] 30)).alloc (by simp) (.cells #[.slice B K kc] 32))
  have HX := Lib.hid ((Blk.new w 30 #[.slice (some ⟨g, 0, none⟩) n c, .int .i64 o, .int .i64 K, .int .i64 i]).alloc (.cells #[.slice B K kc] 32))
  have HK := Lib.hid ((Blk.new_ (w.alloc (.cells #[.slice (some ⟨g, 0, none⟩) n c, .int .i64 o, .int .i64 K, .int .i64 i] 30)) 32 #[.slice B K kc] (w.heap.size + 1) (by simp)).cell 0)
  obtain ⟨x0, x1, x2, x3⟩ := cells4w HX.out
  go_wp2_with fail
  refine (HR.out _).mono ?_
  rintro e w1 ⟨rfl, hb⟩
  have HB1 := Lib.hid (below_nx HB0.out hb)
  have HX1 := Lib.hid (HX.out.nxt hb)
  have HK1 := Lib.hid (cell_below HK.out hb)
  have k0 := cell_below HK.out hb
  clear hb x0 x1 x2 x3
  obtain ⟨x0, x1, x2, x3⟩ := cells4w HX1.out
  go_wp2_with fail
  refine (HEa.out _ _ HB1.out (by omega) HK1.out).mono ?_
  rintro e w2 ⟨rfl, m, hm1, hm2, hm3, hm4, hm5⟩
  have HM := Lib.hid (And.intro hm1 (And.intro hm2 (And.intro hm3 hm5)))
  clear hm1 hm2 hm3 hm4 hm5 x0 x1 x2 x3 k0
  go_wp2_with fail
  go_ret
  exact ⟨rfl, m, HM.out.1, HM.out.2.1, HM.out.2.2.1, (Chg.of_below HB1.out).trans HM.out.2.2.2⟩

theorem wrt_whole (l m : List Nat) (K : Nat) (hl : l.length = K) (hm : m.length = K) : wrt l 0 1 m K = m := by
  refine ext_getD (by rw [wrt_length, hl, hm]) fun j hj => ?_
  rw [wrt_length] at hj
  have := wrt_at l 0 1 m K (Nat.le_refl _) (by by_cases h : K = 0; exact .inl h; exact .inr (by omega)) (i := j) (by omega)
  simpa using this
end Go.Proofs.Ytjjneiidggcfdaa
set_option linter.unusedVariables false
set_option linter.unusedSimpArgs false
set_option linter.unnecessarySimpa false
namespace Go.Proofs.Ytjjneiidggcfdaa
open Go.RowKit
attribute [local go_sem ↓] Go.wp_at_zero Go.wp_at_succ

/-- A list that is being made longer by one number. -/
def ApS (Z : Nat) (L : List Value) (R : Nat → Prop) (w wr : World) (db da : Bool) (vb va : Value) (W : World) : Prop :=
  (da = false → Below wr.heap.size wr W ∧ (db = true → ∃ g r, vb = .slice (some ⟨g, 0, none⟩) 1 1 ∧ W.cell? ⟨g, 0, none⟩ = some (.float .f64 r) ∧ R r)) ∧
  (da = true → ∃ r, R r ∧ W.ownsRow Z 25 1 va (L.length + 1) (L ++ [.float .f64 r]) ∧ Below w.heap.size w W)
theorem ApS.nxt {Z : Nat} {L : List Value} {R : Nat → Prop} {w wr : World} {db : Bool} {vb va : Value} {W W' : World} (h : ApS Z L R w wr db false vb va W) (hb : Below W.heap.size W W') : ApS Z L R w wr db false vb va W' :=
  ⟨fun _ => ⟨below_nx (h.1 rfl).1 hb, fun e => by
    obtain ⟨g, r, h1, h2, h3⟩ := (h.1 rfl).2 e
    exact ⟨g, r, h1, cell_below h2 hb, h3⟩⟩, fun e => by cases e⟩
/-- What Axpy makes of a number. -/
def AxQ (a : Nat) (l l' : List Nat) (q r : Nat) : Prop := ∃ p, Comes .mul a (l.getD q 0) p ∧ Comes .add (l'.getD q 0) p r
end Go.Proofs.Ytjjneiidggcfdaa
set_option linter.unusedVariables false
set_option linter.unusedSimpArgs false
namespace Go.Proofs.Ytjjneiidggcfdaa
open Go.RowKit
attribute [local go_sem ↓] Go.wp_at_zero Go.wp_at_succ

def ex34 : List Nat := [4613937818241073152, 4616189618054758400]
def ex11 : List Nat := [4607182418800017408, 4607182418800017408]
def ex56 : List Nat := [4617315517961601024, 4618441417868443648]
theorem Comes.det {op : BinOp} {x y r z : Nat} (h : Comes op x y r) (e : floatBits op .f64 x y = some z) : r = z := by
  rcases h.2 with h | ⟨h, _⟩
  · rw [e] at h; injection h with h; exact h.symm
  · rw [e] at h; cases h
theorem ex_mul1 : floatBits .mul .f64 4611686018427387904 4607182418800017408 = some 4611686018427387904 := by decide +kernel
theorem ex_add5 : floatBits .add .f64 4613937818241073152 4611686018427387904 = some 4617315517961601024 := by decide +kernel
theorem ex_add6 : floatBits .add .f64 4616189618054758400 4611686018427387904 = some 4618441417868443648 := by decide +kernel
theorem ex56_wds : Wds ex56 := by intro b hb; simp [ex56] at hb; omega
theorem ex_axpy {m : List Nat} (hl : m.length = 2) (h : ∀ q, q < 2 → AxR 4611686018427387904 ex34 0 1 ex11 0 1 q (m.getD q 0)) : m = ex56 := by
  obtain ⟨p0, h0, k0⟩ := h 0 (by omega)
  obtain ⟨p1, h1, k1⟩ := h 1 (by omega)
  have e0 := h0.det ex_mul1
  have e1 := h1.det ex_mul1
  subst e0 e1
  have f0 := k0.det ex_add5
  have f1 := k1.det ex_add6
  match m, hl with
  | [a, b], _ =>
    simp [List.getD] at f0 f1
    subst f0 f1
    rfl
theorem ex_pair (g : Nat) : pairI (decide (g = g + 1)) 2 0 2 1 2 0 2 1 = 0 := by
  have : decide (g = g + 1) = false := by simp
  rw [this]; decide
set_option maxRecDepth 100000 in
set_option maxHeartbeats 1000000 in
theorem awake6_any (w : World) : Calls Try.prog 21 #[] w fun e w' => e = .returned (.bool true) ∧ Below w.heap.size w w' := by
  have HSc := Lib.hid (fun W => show Calls Try.prog 30 #[.float .f64 4607182418800017408, .agg #[.slice none 0 0, .int .i64 0, .int .i64 0, .int .i64 0]] W fun e w' => e = .returned (.int .i64 1) ∧ Below W.heap.size W w' from
    axscal_err 4607182418800017408 none 0 0 0 0 0 W (by omega) (by unfold I64; omega) (by unfold I64; omega) (by unfold I64; omega) (by decide))
  have HAx := Lib.hid (fun (g : Nat) W (hO : Own W g ex34) (hO' : Own W (g + 1) ex11) => show Calls Try.prog 24 #[.float .f64 4611686018427387904, .agg #[.slice (some ⟨g + 1, 0, none⟩) 2 2, .int .i64 0, .int .i64 2, .int .i64 1], .agg #[.slice (some ⟨g, 0, none⟩) 2 2, .int .i64 0, .int .i64 2, .int .i64 1]] W fun e w' => e = .returned (.int .i64 0) ∧ Own w' g ex56 ∧ Chg [g] W w' from by
    refine (axpy_ok 4611686018427387904 g (g + 1) 2 2 ex34 ex11 2 2 0 2 1 0 1 W hO hO' rfl rfl (by omega) (by omega) (by omega) (by omega) (by omega) (by unfold I64; omega) (by unfold I64; omega) (by unfold I64; omega) (by unfold I64; omega) (by unfold I64; omega) (ex_pair g) (fun e => by omega)).mono ?_
    rintro e w' ⟨rfl, m, h1, h2, h3, h4⟩
    rw [wrt_whole ex34 m 2 rfl h1, ex_axpy h1 h2] at h3
    exact ⟨rfl, h3, h4⟩)
  have HAl := Lib.hid (fun (A B : Option Addr) (W : World) (h : Row W A (f64s ex56)) (h' : Row W B (f64s ex56)) => show Calls Try.prog 26 #[.slice A 2 2, .slice B 2 2] W fun e w' => e = .returned (.bool true) ∧ Below W.heap.size W w' from
    rall_any A B 2 2 ex56 ex56 W ex56_wds ex56_wds h h' (by decide) (Alike.refl _))
  have HB0 := Lib.hid ((Below.refl w.heap.size w))
  go_enter Try.func21, Try.ntmps21
  go_wp2_with fail
  refine (HSc.out _).mono ?_
  rintro e w1 ⟨rfl, hb⟩
  have HB1 := Lib.hid hb
  clear hb
  go_wp2_with fail
  have HO := Lib.hid (own_blk ((Blk.new w1 25 (f64s ex34).toArray).alloc (.cells (f64s ex11).toArray 25)))
  have HO' := Lib.hid (own_blk (Blk.new_ (w1.alloc (.cells (f64s ex34).toArray 25)) 25 (f64s ex11).toArray (w1.heap.size + 1) (by simp)))
  have HB2 := Lib.hid (below_al (below_al HB1.out (o := (.cells (f64s ex34).toArray 25))) (o := (.cells (f64s ex11).toArray 25)))
  refine (HAx.out _ _ HO.out HO'.out).mono ?_
  rintro e w2 ⟨rfl, ho, hc⟩
  have HO2 := Lib.hid ho
  have HB3 := Lib.hid (hc.below HB2.out HB2.out.size (by intro g hg; simp at hg; subst hg; exact HB1.out.size))
  clear ho hc
  go_wp2_with fail
  have HR1 := Lib.hid (HO2.out.nxt (below_one (o := (.cells (f64s ex56).toArray 25)))).row
  have HR2 := Lib.hid (own_blk (Blk.new w2 25 (f64s ex56).toArray)).row
  have HB4 := Lib.hid (below_al HB3.out (o := (.cells (f64s ex56).toArray 25)))
  refine (HAl.out _ _ _ HR1.out HR2.out).mono ?_
  rintro e w3 ⟨rfl, hb⟩
  have HB5 := Lib.hid (below_nx HB4.out hb)
  clear hb
  go_wp2_with fail
  go_ret
  exact ⟨rfl, HB5.out⟩
end Go.Proofs.Ytjjneiidggcfdaa
set_option linter.unusedVariables false
namespace Go.Proofs.Ytjjneiidggcfdaa
open Go.RowKit

/-- The two values lie in blocks of their own. -/
def Apart (v u : Value) : Prop := v.ownBlock = none ∨ u.ownBlock = none ∨ v.ownBlock ≠ u.ownBlock
theorem Apart.symm {v u : Value} (h : Apart v u) : Apart u v := by
  rcases h with h | h | h
  · exact .inr (.inl h)
  · exact .inl h
  · exact .inr (.inr (fun e => h e.symm))
theorem rows_apart {Z : Nat} {w w' : World} {e : TypeId} {k m : Nat} {v v' u : Value} {ys : List Value} (h2 : w.ownsRow Z e k u m ys) (hne : Apart v u) (hg : w.grownBy w' v.ownBlock) {z : Nat} (hat : v'.ownBlock = v.ownBlock ∨ v'.ownBlock = some z) (hz : z = w.heap.size) :
    w'.ownsRow Z e k u m ys ∧ Apart v' u := by
  constructor
  · refine h2.kept hg ?_
    rcases hne with h | h | h
    · cases hu : u.ownBlock with
      | none => exact .inl rfl
      | some x => exact .inr (by rw [h]; simp)
    · exact .inl h
    · exact .inr (fun e => h e.symm)
  · rcases hat with h | h
    · rcases hne with a | a | a
      · exact .inl (by rw [h]; exact a)
      · exact .inr (.inl a)
      · exact .inr (.inr (by rw [h]; exact a))
    · cases hu : u.ownBlock with
      | none => exact .inr (.inl hu)
      | some x =>
        have := (h2.lt x hu).2
        exact .inr (.inr (by rw [h, hu]; intro e; injection e with e; omega))
theorem ii0 : ∃ i, Try.prog.info? 3 = some i ∧ i.zero = some (.int .i64 0) ∧ i.size = 1 ∧ i.bytes = 8 := by
  have h : (Try.prog.info? 3).map (fun i => (i.zero, i.size, i.bytes)) = some (some (.int .i64 0), 1, 8) := by kernel_rfl
  cases hi : Try.prog.info? 3 with
  | none => rw [hi] at h; cases h
  | some i =>
    rw [hi] at h
    simp at h
    exact ⟨i, rfl, h.1, h.2.1, h.2.2⟩
theorem i64s_snoc (l : List Int) (x : Int) : i64s (l ++ [x]) = i64s l ++ [.int .i64 x] := by simp [i64s]
theorem own_rowi {w : World} {B : Nat} {v : Value} {n : Nat} {l : List Int} (h : w.ownsRow B 3 1 v n (i64s l)) (hn : n = l.length) : ∃ A c, v = .slice A n c ∧ Row w A (i64s l) ∧ ∀ b y, A = some ⟨b, y, none⟩ → b < w.heap.size := by
  rcases h.2 with ⟨rfl, h0⟩ | ⟨g, cap, cur, rfl, hB, hg, hc, hm, hs, hx⟩
  · subst h0
    have : l = [] := List.length_eq_zero_iff.1 hn.symm
    subst this
    exact ⟨none, 0, rfl, .inl rfl, fun b y e => by cases e⟩
  · refine ⟨_, cap, rfl, .inr ⟨g, 0, rfl, fun i v hi => ?_⟩, fun b y e => ?_⟩
    · have := World.ownsRow.cells h (g := g) rfl i v hi
      by_cases h0 : i = 0
      · subst h0; simpa [Addr.add] using this
      · simpa [Addr.add, h0] using this
    · injection e with e
      injection e with e1 e2
      subst e1
      exact (Array.getElem?_eq_some_iff.1 hg).1
theorem wrap_byte {x : Nat} (h : x < 256) : IntKind.i64.wrap (x : Int) = (x : Int) ∧ IntKind.i64.wrap (-(x : Int)) = -(x : Int) ∧ wrap64 (x : Int) = (x : Int) ∧ wrap64 (-(x : Int)) = -(x : Int) :=
  ⟨wrapi (by omega) (by omega), wrapi (by omega) (by omega), wrap_id (by unfold I64; omega), wrap_id (by unfold I64; omega)⟩
/-- A list that is counted out. -/
def cnt (f : Nat → Int) (q : Nat) : List Int := (List.range q).map f
theorem cnt_length (f : Nat → Int) (q : Nat) : (cnt f q).length = q := by simp [cnt]
theorem cnt_succ (f : Nat → Int) (q : Nat) : cnt f (q + 1) = cnt f q ++ [f q] := by simp [cnt, List.range_succ]
theorem cnt_getD (f : Nat → Int) {q j : Nat} (h : j < q) : (cnt f q).getD j 0 = f j := by simp [cnt, List.getD, h]
end Go.Proofs.Ytjjneiidggcfdaa
set_option linter.unusedVariables false
set_option linter.unusedSimpArgs false
namespace Go.Proofs.Ytjjneiidggcfdaa
open Go.RowKit
attribute [local go_sem ↓] Go.wp_at_zero Go.wp_at_succ

theorem kind_fin2 (z : Nat) : (kindOf z != 0) = !Fl.fin z := by
  unfold kindOf Fl.fin
  rw [Bool.eq_iff_iff]
  simp only [bne_iff_ne, ne_eq, Bool.not_eq_true', decide_eq_false_iff_not]
  split
  · simp [*]
  · split <;> simp [*]
set_option maxHeartbeats 1000000 in
theorem rfin_any (A : Option Addr) (n c : Nat) (l : List Nat) (w : World) (hA : Row w A (f64s l)) (hW : Wds l) (hl : l.length = n) (hn : n < 1048576) :
    Calls Try.prog 9 #[.slice A n c] w fun e w' => e = .returned (.bool (l.all Fl.fin)) ∧ w = w' := by
  have HA := Lib.hid hA
  have HW := Lib.hid hW
  have Hl := Lib.hid hl
  clear hA hW hl
  go_enter Try.func9, Try.ntmps9
  go_wp2_with fail
  go_loop [3] (fun i => ∃ k : Nat, k ≤ n ∧ i = .int .i64 k ∧ (l.take k).all Fl.fin = true) (fun i => n - (intOf i).toNat)
  case atStart => exact ⟨0, Nat.zero_le _, rfl, by simp⟩
  case round =>
    obtain ⟨k, hk, rfl, ha⟩ := hrel
    have HAl := Lib.hid ha
    clear ha
    by_cases hlt : k < n
    · have hkl : k < l.length := by rw [Hl.out]; exact hlt
      obtain ⟨b, o, rfl, hc⟩ := HA.out.get0 hkl
      have hw := HW.out.at_ k hkl
      have hstep := all_take l k hkl
      rw [HAl.out] at hstep
      rw [getD_of_lt hkl] at hc
      have hkd := kind_fin2 l[k]
      obtain ⟨z, hz⟩ : ∃ z, l[k] = z := ⟨_, rfl⟩
      rw [hz] at hc hw hstep hkd
      have HS := Lib.hid hstep
      have HX := Lib.hid hw
      have hqc : (k : Int) < (n : Int) := by omega
      have hk1 : k + 1 ≤ 1048576 := by omega
      clear hstep hw hz hkl
      cases hf : Fl.fin z
      · rw [hf] at hkd
        have HF := Lib.hid hf
        clear hf
        go_wp2_with fail
        refine (parts_any z _ HX.out).mono ?_
        rintro e w' ⟨rfl, rfl⟩
        go_wp2_with fail
        go_ret
        refine ⟨ret_bool ?_, rfl⟩
        have h1 := HS.out
        rw [HF.out] at h1
        exact (all_of_take h1).symm
      · rw [hf] at hkd
        have HF := Lib.hid hf
        clear hf
        go_wp2_with fail
        refine (parts_any z _ HX.out).mono ?_
        rintro e w' ⟨rfl, rfl⟩
        go_wp2_with fail
        go_round
        case rel => exact ⟨k + 1, by omega, by go_num, by rw [HS.out, HF.out]; rfl⟩
        case measure => simp [intOf]; omega
    · obtain rfl : k = n := by omega
      have hqc : ¬ (k : Int) < (k : Int) := by omega
      go_wp2_with fail
      go_ret
      exact ⟨ret_bool (by rw [← HAl.out, List.take_of_length_le (by have := Hl.out; omega)]), rfl⟩
end Go.Proofs.Ytjjneiidggcfdaa
namespace Go.Proofs.Ytjjneiidggcfdaa.Fl

theorem mag_small {x : Nat} (h : x < 9007199254740992) : mag x = x := by
  unfold mag
  by_cases h1 : x < 4503599627370496
  · rw [if_pos h1]
  · rw [if_neg h1, show x / 4503599627370496 - 1 = 0 by omega]; simp; omega
theorem mag_place {m q : Nat} (h1 : 4503599627370496 ≤ m) (h2 : m < 9007199254740992) : mag (q * 4503599627370496 + m) = m * 2 ^ q := by
  unfold mag
  rw [if_neg (by omega), show (q * 4503599627370496 + m) / 4503599627370496 - 1 = q by omega, show 4503599627370496 + (q * 4503599627370496 + m) % 4503599627370496 = m by omega]
/-- What isn't too great is scaled up without rounding. -/
theorem scl_mag {m q : Nat} (hm : m < 9007199254740992) (h : scl m q < INF) : mag (scl m q) = m * 2 ^ q := by
  by_cases h0 : m = 0
  · subst h0; rw [scl_zero]; simp [mag]
  have hI := INF_val
  have hl : m.log2 < 53 := (Nat.log2_lt h0).2 hm
  by_cases hc : m.log2 + q ≤ 52
  · have hx : m * 2 ^ q < 9007199254740992 := by
      have h1 : m < 2 ^ (m.log2 + 1) := Nat.lt_log2_self
      have h2 : m * 2 ^ q < 2 ^ (m.log2 + 1) * 2 ^ q := Nat.mul_lt_mul_of_pos_right h1 (Nat.two_pow_pos q)
      rw [← Nat.pow_add] at h2
      have h3 : 2 ^ (m.log2 + 1 + q) ≤ 2 ^ 53 := Nat.pow_le_pow_right (by omega) (by omega)
      omega
    have e := scl_shift m q 0
    rw [Int.add_zero] at e
    have e2 := scl_exact (m * 2 ^ q) 0 hx (.inr rfl)
    rw [show ((0 : Nat) : Int) = 0 from rfl] at e2
    rw [← e, e2]
    have : cap (0 * 4503599627370496 + m * 2 ^ q) = m * 2 ^ q := by unfold cap; omega
    rw [this, mag_small hx]
  · have hj : 52 - m.log2 ≤ q := by omega
    have hlo : 4503599627370496 ≤ m * 2 ^ (52 - m.log2) := by
      have := Nat.mul_le_mul_right (2 ^ (52 - m.log2)) (Nat.log2_self_le h0)
      rw [← Nat.pow_add, show m.log2 + (52 - m.log2) = 52 by omega] at this
      exact this
    have hhi : m * 2 ^ (52 - m.log2) < 9007199254740992 := by
      have h1 : m < 2 ^ (m.log2 + 1) := Nat.lt_log2_self
      have h2 := Nat.mul_lt_mul_of_pos_right h1 (Nat.two_pow_pos (52 - m.log2))
      rw [← Nat.pow_add, show m.log2 + 1 + (52 - m.log2) = 53 by omega] at h2
      exact h2
    have e := scl_shift m (52 - m.log2) ((q - (52 - m.log2) : Nat) : Int)
    rw [show ((52 - m.log2 : Nat) : Int) + ((q - (52 - m.log2) : Nat) : Int) = q by omega] at e
    have e2 := scl_exact (m * 2 ^ (52 - m.log2)) (q - (52 - m.log2)) hhi (.inl hlo)
    rw [← e, e2] at h ⊢
    have hcap : cap ((q - (52 - m.log2)) * 4503599627370496 + m * 2 ^ (52 - m.log2)) = (q - (52 - m.log2)) * 4503599627370496 + m * 2 ^ (52 - m.log2) := by
      unfold cap at h ⊢; omega
    rw [hcap, mag_place hlo hhi, Nat.mul_assoc, ← Nat.pow_add]
    congr 2; omega
theorem scl_self {b : Nat} (h : rung b < INF) : scl (mag (rung b)) 0 = rung b := by
  have := scl_exact (pm b) (pe b) (pm_lt b) (pm_pe b)
  rw [← rung_parts] at this
  rw [scale_parts, Int.add_zero, this]
  unfold cap; omega

theorem scale_back {b : Nat} (hb : b < 18446744073709551616) (n : Nat) (h1 : rung b < INF) (h2 : rung (scale b n) < INF) : scale (scale b n) (-(n : Int)) = b := by
  have hI := INF_val
  by_cases h0 : rung b = 0
  · have e : scale b n = b := by unfold scale; rw [if_pos (.inl h0)]
    rw [e]; unfold scale; rw [if_pos (.inl h0)]
  · have e : scale b n = wd (sg b) (scl (mag (rung b)) n) := by unfold scale; rw [if_neg (by omega)]
    have hlt : scl (mag (rung b)) n < 9223372036854775808 := Nat.lt_of_le_of_lt (scl_le _ _) (by omega)
    rw [e, rung_wd _ hlt] at h2
    have hm : mag (scl (mag (rung b)) n) = mag (rung b) * 2 ^ n := by
      rw [scale_parts, show (pe b : Int) + (n : Int) = ((pe b + n : Nat) : Int) by omega] at h2 ⊢
      rw [scl_mag (pm_lt b) h2, mag_parts, Nat.mul_assoc, ← Nat.pow_add]
    have hpos : 0 < mag (rung b) := by have := mag_lt (r := 0) (s := rung b) (by omega); omega
    have hr : scl (mag (rung b)) n ≠ 0 := by
      intro h
      rw [h, mag_zero] at hm
      have : 0 < mag (rung b) * 2 ^ n := Nat.mul_pos hpos (Nat.two_pow_pos n)
      omega
    rw [e]
    unfold scale
    rw [rung_wd _ hlt, sg_wd _ hlt, if_neg (by omega), hm, scl_shift, show (n : Int) + -(n : Int) = 0 by omega, scl_self h1, wd_parts hb]

end Go.Proofs.Ytjjneiidggcfdaa.Fl
set_option linter.unusedVariables false
set_option linter.unusedSimpArgs false
set_option linter.unnecessarySimpa false
namespace Go.Proofs.Ytjjneiidggcfdaa
open Go.RowKit
attribute [local go_sem ↓] Go.wp_at_zero Go.wp_at_succ

/-- Two results that have lists of their own. -/
def Twin (Z : Nat) (l l' : List Nat) (f f' : Nat → Nat → Value) (d1 d3 : Bool) (va vb : Value) (W : World) : Prop :=
  d1 = true → ∃ g c, va = f g c ∧ Own W g l ∧ Z ≤ g ∧ (d3 = true → ∃ g' c', vb = f' g' c' ∧ Own W g' l' ∧ Z ≤ g' ∧ g ≠ g')
section
variable {Z : Nat} {l l' : List Nat} {f f' : Nat → Nat → Value} {d1 d3 : Bool} {va vb : Value} {W W' : World}
theorem Twin.nxt (h : Twin Z l l' f f' d1 d3 va vb W) (hb : Below W.heap.size W W') : Twin Z l l' f f' d1 d3 va vb W' := fun e => by
  obtain ⟨g, c, h1, h2, h3, h4⟩ := h e
  refine ⟨g, c, h1, h2.nxt hb, h3, fun e' => ?_⟩
  obtain ⟨g', c', k1, k2, k3, k4⟩ := h4 e'
  exact ⟨g', c', k1, k2.nxt hb, k3, k4⟩
theorem Twin.first {g c : Nat} (ho : Own W g l) (hZ : Z ≤ g) (h3 : d3 = false) : Twin Z l l' f f' true d3 (f g c) vb W := fun _ => ⟨g, c, rfl, ho, hZ, fun e => by rw [h3] at e; cases e⟩
end
end Go.Proofs.Ytjjneiidggcfdaa
set_option linter.unusedVariables false
namespace Go.Proofs.Ytjjneiidggcfdaa
open Go.RowKit
attribute [local go_sem ↓] Go.wp_at_zero Go.wp_at_succ

/-- The first q columns have changed rows i and k. -/
def Half (T : List Nat) (i k R C q : Nat) (T' : List Nat) : Prop := T'.length = T.length ∧ ∀ a, a < R → ∀ b, b < C → T'.getD (a * C + b) 0 = if b < q then T.getD (sw i k a * C + b) 0 else T.getD (a * C + b) 0
theorem Half.zero (T : List Nat) (i k R C : Nat) : Half T i k R C 0 T := ⟨rfl, fun a _ b _ => by simp⟩
end Go.Proofs.Ytjjneiidggcfdaa
set_option linter.unusedVariables false
set_option linter.unusedSimpArgs false
namespace Go.Proofs.Ytjjneiidggcfdaa
open Go.RowKit
attribute [local go_sem ↓] Go.wp_at_zero Go.wp_at_succ

/-- The list has the table T at the matrix' first places, by rows, and is else as it was. -/
def Pim (l : List Nat) (o R C L : Nat) (T : Nat → Nat → Nat) (a b : Nat) (l' : List Nat) : Prop :=
  l'.length = l.length ∧ (∀ i, i < R → ∀ j, j < C → l'.getD (o + i + j * L) 0 = if i < a ∨ (i = a ∧ j < b) then T i j else l.getD (o + i + j * L) 0) ∧ ∀ x, (∀ i, i < R → ∀ j, j < C → x ≠ o + i + j * L) → l'.getD x 0 = l.getD x 0
theorem Pim.zero (l : List Nat) (o R C L : Nat) (T : Nat → Nat → Nat) : Pim l o R C L T 0 0 l := ⟨rfl, fun i _ j _ => by rw [if_neg (by omega)], fun _ _ => rfl⟩
theorem Pim.done {l l' : List Nat} {o R C L : Nat} {T : Nat → Nat → Nat} (h : Pim l o R C L T R 0 l') : Img l o R C L T l' :=
  ⟨h.1, fun i hi j hj => by rw [h.2.1 i hi j hj, if_pos (.inl hi)], h.2.2⟩
end Go.Proofs.Ytjjneiidggcfdaa
set_option linter.unusedVariables false
set_option linter.unusedSimpArgs false
set_option linter.unnecessarySimpa false
namespace Go.Proofs.Ytjjneiidggcfdaa
open Go.RowKit
attribute [local go_sem ↓] Go.wp_at_zero Go.wp_at_succ

/-- Block g is of floats, and they meet S. -/
def OwnS (W : World) (S : Array Value → Prop) (g : Nat) : Prop := ∃ cs : Array Value, Blk W g 25 cs ∧ S cs
section
variable {W W' : World} {S S' : Array Value → Prop} {g : Nat}
theorem OwnS.nxt (h : OwnS W S g) (hb : Below W.heap.size W W') : OwnS W' S g := by
  obtain ⟨cs, h1, h2⟩ := h
  exact ⟨cs, h1.nxt hb, h2⟩
theorem OwnS.lt (h : OwnS W S g) : g < W.heap.size := by
  obtain ⟨cs, h1, h2⟩ := h
  exact h1.lt
end
/-- Two results, each with a block of its own. -/
def Twn (Z : Nat) (S S' : Array Value → Prop) (f f' : Nat → Nat → Value) (d1 d3 : Bool) (va vb : Value) (W : World) : Prop :=
  d1 = true → ∃ g c, va = f g c ∧ OwnS W S g ∧ Z ≤ g ∧ (d3 = true → ∃ g' c', vb = f' g' c' ∧ OwnS W S' g' ∧ Z ≤ g' ∧ g ≠ g')
section
variable {Z : Nat} {S S' : Array Value → Prop} {f f' : Nat → Nat → Value} {d1 d3 : Bool} {va vb : Value} {W W' : World}
theorem Twn.nxt (h : Twn Z S S' f f' d1 d3 va vb W) (hb : Below W.heap.size W W') : Twn Z S S' f f' d1 d3 va vb W' := fun e => by
  obtain ⟨g, c, h1, h2, h3, h4⟩ := h e
  refine ⟨g, c, h1, h2.nxt hb, h3, fun e' => ?_⟩
  obtain ⟨g', c', k1, k2, k3, k4⟩ := h4 e'
  exact ⟨g', c', k1, k2.nxt hb, k3, k4⟩
theorem Twn.first {g c : Nat} (ho : OwnS W S g) (hZ : Z ≤ g) (h3 : d3 = false) : Twn Z S S' f f' true d3 (f g c) vb W := fun _ => ⟨g, c, rfl, ho, hZ, fun e => by rw [h3] at e; cases e⟩
end
end Go.Proofs.Ytjjneiidggcfdaa
set_option linter.unusedVariables false
namespace Go.Proofs.Ytjjneiidggcfdaa
open Go.RowKit

/-- The value is a slice that reads as the list. -/
def SlR (W : World) (v : Value) (n : Nat) (X : List Nat) : Prop := ∃ B d, v = .slice B n d ∧ Row W B (f64s X)
theorem SlR.below {W W' : World} {v : Value} {n : Nat} {X : List Nat} (h : SlR W v n X) (hb : Below W.heap.size W W') : SlR W' v n X := by
  obtain ⟨B, d, e, r⟩ := h
  exact ⟨B, d, e, r.below hb⟩
/-- The value is a slice of n numbers of which this holds. -/
def SlM (W : World) (v : Value) (n : Nat) (R : Nat → Nat → Prop) : Prop := ∃ m : List Nat, m.length = n ∧ (∀ q, q < n → R q (m.getD q 0)) ∧ SlR W v n m
theorem SlM.below {W W' : World} {v : Value} {n : Nat} {R : Nat → Nat → Prop} (h : SlM W v n R) (hb : Below W.heap.size W W') : SlM W' v n R := by
  obtain ⟨m, e, f, r⟩ := h
  exact ⟨m, e, f, r.below hb⟩
/-- The value is a slice of a list of its own of which this holds. -/
def SlO (W : World) (v : Value) (n : Nat) (S : List Nat → Prop) : Prop := ∃ g c m, v = .slice (some ⟨g, 0, none⟩) n c ∧ S m ∧ Own W g m
theorem SlO.below {W W' : World} {v : Value} {n : Nat} {S : List Nat → Prop} (h : SlO W v n S) (hb : Below W.heap.size W W') : SlO W' v n S := by
  obtain ⟨g, c, m, e, f, r⟩ := h
  exact ⟨g, c, m, e, f, r.nxt hb⟩
end Go.Proofs.Ytjjneiidggcfdaa
set_option linter.unusedVariables false
namespace Go.Proofs.Ytjjneiidggcfdaa
open Go.RowKit
attribute [local go_sem ↓] Go.wp_at_zero Go.wp_at_succ

def RetF (w : World) (n : Nat) (l : List Nat) (e : Ending) (w' : World) : Prop := ∃ g c', e = .returned (.slice (some ⟨g, 0, none⟩) n c') ∧ Own w' g l ∧ w.heap.size ≤ g ∧ Below w.heap.size w w'
theorem RetF.mk {w w' : World} {n g c' : Nat} {l : List Nat} {e : Ending} (h : e = .returned (.slice (some ⟨g, 0, none⟩) n c')) (h1 : Own w' g l) (h2 : w.heap.size ≤ g) (h3 : Below w.heap.size w w') : RetF w n l e w' := ⟨g, c', h, h1, h2, h3⟩
end Go.Proofs.Ytjjneiidggcfdaa
set_option linter.unusedVariables false
set_option linter.unusedSimpArgs false
set_option linter.unnecessarySimpa false
namespace Go.Proofs.Ytjjneiidggcfdaa
open Go.RowKit
attribute [local go_sem ↓] Go.wp_at_zero Go.wp_at_succ


theorem wds_of {m : List Nat} {K : Nat} (hm : m.length = K) (h : ∀ q, q < K → m.getD q 0 < 18446744073709551616) : Wds m := by
  intro b hb
  obtain ⟨j, hj, rfl⟩ := List.getElem_of_mem hb
  have := h j (by omega)
  rwa [getD_of_lt hj] at this
theorem AxR.lt {a : Nat} {l : List Nat} {o i : Nat} {l' : List Nat} {o' i' q r : Nat} (h : AxR a l o i l' o' i' q r) : r < 18446744073709551616 := by
  obtain ⟨p, _, h2⟩ := h; exact h2.1
theorem AxQ.lt {a : Nat} {l l' : List Nat} {q r : Nat} (h : AxQ a l l' q r) : r < 18446744073709551616 := by
  obtain ⟨p, _, h2⟩ := h; exact h2.1
end Go.Proofs.Ytjjneiidggcfdaa
set_option linter.unusedVariables false
set_option linter.unusedSimpArgs false
set_option linter.unnecessarySimpa false
namespace Go.Proofs.Ytjjneiidggcfdaa
open Go.RowKit
attribute [local go_sem ↓] Go.wp_at_zero Go.wp_at_succ


theorem fin_of_scale {x : Nat} {k : Int} (h : Fl.fin (Fl.scale x k) = true) : Fl.fin x = true := by
  by_cases hf : Fl.rung x < Fl.INF
  · exact decide_eq_true hf
  · have e : Fl.scale x k = x := by unfold Fl.scale; rw [if_pos (.inr (by omega))]
    rw [e] at h; exact h
/-- Up by a power, and down by it. -/
theorem back_list {l m m2 : List Nat} {kk : List Nat} {n : Nat} (hW : Wds l) (hl : l.length = n) (hm : m.length = n) (hm2 : m2.length = n) (h : ∀ q, q < n → m.getD q 0 = Fl.scale (l.getD q 0) (kk.getD q 0 : Int)) (h2 : ∀ q, q < n → m2.getD q 0 = Fl.scale (m.getD q 0) (-(kk.getD q 0 : Int))) (hf : m.all Fl.fin = true) : m2 = l := by
  refine ext_getD (by omega) fun q hq => ?_
  have hq : q < n := by omega
  have h1 := List.all_eq_true.1 hf (m.getD q 0) (by rw [getD_of_lt (by omega)]; exact List.getElem_mem _)
  rw [h2 q hq]
  rw [h q hq] at h1 ⊢
  have h0 := fin_of_scale h1
  exact Fl.scale_back (getD_wds hW q) (kk.getD q 0) (of_decide_eq_true h0) (of_decide_eq_true h1)

set_option maxRecDepth 100000 in
set_option maxHeartbeats 4000000 in
theorem axesBack_ok (A : Option Addr) (n c : Nat) (l : List Nat) (Ak : Option Addr) (n' c' : Nat) (kk : List Nat) (w : World) (hA : Row w A (f64s l)) (hW : Wds l) (hl : l.length = n) (hn : n ≤ 60) (hK : Row w Ak (u8s kk)) (hk : ∀ z ∈ kk, z < 256) (hkl : kk.length = n') (hnn : n ≤ n') (hn' : n' < 9223372036854775808) :
    Calls Try.prog 7 #[.slice A n c, .slice Ak n' c'] w fun e w' => e = .returned (.bool true) ∧ Below w.heap.size w w' := by
  obtain ⟨i0, hi, hz0, hz1, hz2⟩ := ii0
  obtain ⟨UU, hUU⟩ : ∃ f : Nat → Int, (fun q => ((kk.getD q 0 : Nat) : Int)) = f := ⟨_, rfl⟩
  obtain ⟨DD, hDD⟩ : ∃ f : Nat → Int, (fun q => -((kk.getD q 0 : Nat) : Int)) = f := ⟨_, rfl⟩
  have HSh := Lib.hid (fun W (g c : Nat) (M : List Nat) (f : Nat → Int) (B : Option Addr) (kc : Nat) (hO : Own W g M) (hM : M.length = n) (hWM : Wds M) (hB : Row W B (i64s (cnt f n))) (hBg : ∀ b y, B = some ⟨b, y, none⟩ → b ≠ g) =>
    show Calls Try.prog 31 #[.agg #[.slice (some ⟨g, 0, none⟩) n c, .int .i64 0, .int .i64 n, .int .i64 1], .slice B n kc] W fun e w' => e = .returned (.int .i64 0) ∧ ∃ m : List Nat, (m.length = n ∧ (∀ q, q < n → m.getD q 0 = Fl.scale (M.getD q 0) (f q))) ∧ Own w' g m ∧ Chg [g] W w' from by
      refine (axshift_ok g c M n 0 n 1 B kc (cnt f n) W hO hWM hM (by omega) hB (cnt_length f n) (fun b y e => .inl (hBg b y e)) (by omega) (by by_cases h : n = 0; exact .inl h; exact .inr (by omega)) (by unfold I64; omega) (by unfold I64; omega) (by unfold I64; omega) (decide_eq_true ?_)).mono ?_
      · refine ⟨by omega, by omega, by omega, ?_⟩
        by_cases h : n = 0
        · exact .inl (by omega)
        · exact .inr (by omega)
      · rintro e w' ⟨rfl, m, h1, h2, h3, h4⟩
        rw [wrt_whole M m n hM h1] at h3
        exact ⟨rfl, m, ⟨h1, fun q hq => by rw [h2 q hq, cnt_getD f hq]; simp⟩, h3, h4⟩)
  have HCp := Lib.hid (fun W (hb : Below w.heap.size w W) => show Calls Try.prog 37 #[.slice A n c] W fun e w' => ∃ g c', e = .returned (.slice (some ⟨g, 0, none⟩) n c') ∧ Own w' g l ∧ W.heap.size ≤ g ∧ Below W.heap.size W w' from by
    have := rcopy_any A c l W (hA.below hb) (by omega)
    rw [hl] at this
    exact this.mono fun e w' ⟨g, c', e1, e2, e3, _, _, e4⟩ => ⟨g, c', e1, e2, e3, e4⟩)
  have HFn := Lib.hid (fun W (B : Option Addr) (d : Nat) (M : List Nat) (hM : M.length = n) (hWM : Wds M) (hB : Row W B (f64s M)) => rfin_any B n d M W hB hWM hM (by omega))
  have HAll := Lib.hid (fun W (B C : Option Addr) (d d' : Nat) (h1 : Row W B (f64s l)) (h2 : Row W C (f64s l)) => show Calls Try.prog 26 #[.slice B n d, .slice C n d'] W fun e w' => e = .returned (.bool true) ∧ Below W.heap.size W w' from by
    have := rall_any B C d d' l l W hW hW h1 h2 (by omega) (Alike.refl l)
    rw [hl] at this; exact this)
  have HBk := Lib.hid (fun (m m2 : List Nat) (h1 : m.length = n ∧ (∀ q, q < n → m.getD q 0 = Fl.scale (l.getD q 0) (UU q))) (h2 : m2.length = n ∧ (∀ q, q < n → m2.getD q 0 = Fl.scale (m.getD q 0) (DD q))) (hf : m.all Fl.fin = true) => show m2 = l from
    back_list hW hl h1.1 h2.1 (by rw [← hUU] at h1; exact h1.2) (by rw [← hDD] at h2; exact h2.2) hf)
  have HA := Lib.hid hA
  have HW := Lib.hid hW
  have Hl := Lib.hid hl
  have HKk := Lib.hid hK
  have Hkl := Lib.hid hkl
  have Hk := Lib.hid hk
  have HU := Lib.hid (fun q => (congrFun hUU q).symm)
  have HD := Lib.hid (fun q => (congrFun hDD q).symm)
  have hn60 : decide ((60 : Int) < (n : Int)) = false := by simp; omega
  have hnn2 : decide (n' < n) = false := by simp; omega
  clear hA hW hl hK hk hkl hUU hDD
  go_enter Try.func7, Try.ntmps7
  go_wp2_with fail
  refine (awake6_any _).mono ?_
  rintro e w1 ⟨rfl, hb⟩
  have HB1 := Lib.hid hb
  clear hb
  go_wp2_with fail
  go_loopw [5, 6, 7] (fun up dn i wr => ∃ q : Nat, q ≤ n ∧ i = .int .i64 q ∧ wr.ownsRow w.heap.size 3 1 up q (i64s (cnt UU q)) ∧ wr.ownsRow w.heap.size 3 1 dn q (i64s (cnt DD q)) ∧ Apart up dn ∧ Below w.heap.size w wr) (fun _ _ i _ => n - (intOf i).toNat)
  case atStart => exact ⟨0, Nat.zero_le _, rfl, World.ownsRow_nil _ _ _ _, World.ownsRow_nil _ _ _ _, .inl rfl, HB1.out⟩
  case round =>
    obtain ⟨q, hq, rfl, hou, hod, hap0, hbl⟩ := hrel
    have HOu := Lib.hid hou
    have HOd := Lib.hid hod
    have HAp := Lib.hid hap0
    have HBl := Lib.hid hbl
    clear hou hod hap0 hbl
    by_cases hlt : q < n
    · have hql : q < kk.length := by rw [Hkl.out]; omega
      obtain ⟨b, x0, rfl, _, hcell0⟩ := HKk.out.at_ (u8s_get kk q hql)
      have hg0 : kk.getD q 0 = kk[q] := by simp [List.getD, hql]
      have hx256 := Hk.out kk[q] (List.getElem_mem hql)
      have HUq := Lib.hid (HU.out q)
      have HDq := Lib.hid (HD.out q)
      rw [hg0] at HUq HDq
      have hcell := cell_below hcell0 HBl.out
      have HC := Lib.hid hcell
      obtain ⟨x, hx⟩ : ∃ x, kk[q] = x := ⟨_, rfl⟩
      rw [hx] at HUq HDq hx256 HC
      rw [hx] at hcell
      obtain ⟨e1, e2, e3, e4⟩ := wrap_byte hx256
      have b1 : (q : Int) < (n' : Int) := by omega
      have b0 : (0 : Int) ≤ (q : Int) := by omega
      have hqc : (q : Int) < (n : Int) := by omega
      have hq1 : q + 1 ≤ 1048576 := by omega
      have HAp1 := HAp
      have HBl1 := HBl
      clear hx hcell0 hg0 hql
      have HN1 := Lib.hid (Blk.new wr 3 #[.int .i64 (x : Int)])
      have HOa1 := Lib.hid (HOu.out.alloc (.cells #[.int .i64 (x : Int)] 3))
      have HOb1 := Lib.hid (HOd.out.alloc (.cells #[.int .i64 (x : Int)] 3))
      go_wp2_with (at_builtin; refine wpList_append_own_at _ rfl _ _ 32 rfl w.heap.size 3 i0 (.int .i64 0) 1 8 Try.underlying32 hi hz0 hz1 hz2 rfl (by decide) _ q (i64s (cnt UU q)) rfl HOa1.out ⟨wr.heap.size, 0, none⟩ 1 1 [.int .i64 (x : Int)] rfl rfl ?c11 (by intro u hu; simp at hu; subst hu; rfl) ?c31 ?c41 ?c51 ?_)
      case c11 => exact cell_one_new _ _ _
      case c31 => unfold maxLen; omega
      case c41 => omega
      case c51 => (try simp); have := HBl1.out.size; omega
      intro v1 w2 hown' hgrow _ hat
      obtain ⟨hot, hap⟩ := rows_apart HOb1.out HAp1.out hgrow hat (by simp)
      have HOu2 := Lib.hid (show w2.ownsRow w.heap.size 3 1 v1 (q + 1) (i64s (cnt UU (q + 1))) by rw [cnt_succ, i64s_snoc, HUq.out]; exact hown')
      have HOd2 := Lib.hid hot
      have HAp2 := Lib.hid hap.symm
      have HBl2 := Lib.hid ((HBl.out.alloc HBl.out.size (.cells #[.int .i64 (x : Int)] 3)).grown hgrow (by simp; have := HBl.out.size; omega) (fun k hk => by have := (HOa1.out.lt k hk).1; omega))
      have hc2 : w2.cell? ⟨b, x0 + q, none⟩ = some (.int .u8 (x : Int)) := (hgrow.cell (a := ⟨b, x0 + q, none⟩) (cell_below HC.out below_one) (fun e => by
        have h1 := block_lt HC.out
        have h2 := (HOa1.out.lt b e.symm).1
        have h3 := block_lt (HKk.out.at_ (u8s_get kk q (by rw [Hkl.out]; omega))).choose_spec.choose_spec.2.2
        have h4 := (HKk.out.at_ (u8s_get kk q (by rw [Hkl.out]; omega))).choose_spec.choose_spec.1
        injection h4 with h4
        injection h4 with h5 h6
        omega))
      clear hown' hgrow hot hap hat hcell
      have HN2 := Lib.hid (Blk.new w2 3 #[.int .i64 (-(x : Int))])
      have HOa2 := Lib.hid (HOd2.out.alloc (.cells #[.int .i64 (-(x : Int))] 3))
      have HOb2 := Lib.hid (HOu2.out.alloc (.cells #[.int .i64 (-(x : Int))] 3))
      go_wp2_with (at_builtin; refine wpList_append_own_at _ rfl _ _ 32 rfl w.heap.size 3 i0 (.int .i64 0) 1 8 Try.underlying32 hi hz0 hz1 hz2 rfl (by decide) _ q (i64s (cnt DD q)) rfl HOa2.out ⟨w2.heap.size, 0, none⟩ 1 1 [.int .i64 (-(x : Int))] rfl rfl ?c12 (by intro u hu; simp at hu; subst hu; rfl) ?c32 ?c42 ?c52 ?_)
      case c12 => exact cell_one_new _ _ _
      case c32 => unfold maxLen; omega
      case c42 => omega
      case c52 => (try simp); have := HBl2.out.size; omega
      intro v2 w3 hown' hgrow _ hat
      obtain ⟨hot, hap⟩ := rows_apart HOb2.out HAp2.out hgrow hat (by simp)
      have HOd3 := Lib.hid (show w3.ownsRow w.heap.size 3 1 v2 (q + 1) (i64s (cnt DD (q + 1))) by rw [cnt_succ, i64s_snoc, HDq.out]; exact hown')
      have HOu3 := Lib.hid hot
      have HAp3 := Lib.hid hap.symm
      have HBl3 := Lib.hid ((HBl2.out.alloc HBl2.out.size (.cells #[.int .i64 (-(x : Int))] 3)).grown hgrow (by simp; have := HBl2.out.size; omega) (fun k hk => by have := (HOa2.out.lt k hk).1; omega))
      clear hown' hgrow hot hap hat hc2
      go_wp2_with fail
      go_roundw
      case rel => exact ⟨q + 1, by omega, by go_num, HOu3.out, HOd3.out, HAp3.out, HBl3.out⟩
      case measure => simp [intOf]; omega
    · obtain rfl : q = n := by omega
      have hqc : ¬ (q : Int) < (q : Int) := by omega
      obtain ⟨Bu, cu, rfl, hru, hlu⟩ := own_rowi HOu.out (cnt_length UU q).symm
      obtain ⟨Bd, cd, rfl, hrd, hld⟩ := own_rowi HOd.out (cnt_length DD q).symm
      have HRu := Lib.hid (And.intro hru hlu)
      have HRd := Lib.hid (And.intro hrd hld)
      clear hru hlu hrd hld
      go_wp2_with fail
      refine (HCp.out _ HBl.out).mono ?_
      rintro e w4 ⟨g, c4, rfl, ho, hg, hb⟩
      have HBu := Lib.hid (fun b y (e : Bu = some ⟨b, y, none⟩) => show b ≠ g by have := HRu.out.2 b y e; omega)
      have HBd := Lib.hid (fun b y (e : Bd = some ⟨b, y, none⟩) => show b ≠ g by have := HRd.out.2 b y e; omega)
      have HRu4 := Lib.hid (HRu.out.1.below hb)
      have HRd4 := Lib.hid (HRd.out.1.below hb)
      have HB4 := Lib.hid (below_nx HBl.out hb)
      have HO4 := Lib.hid ho
      have HGz := Lib.hid (show w.heap.size ≤ g by have := HBl.out.size; omega)
      clear ho hb hg
      have HX5 := Lib.hid (Blk.new w4 30 #[.slice (some ⟨g, 0, none⟩) q c4, .int .i64 0, .int .i64 (q : Int), .int .i64 1])
      have HO5 := Lib.hid (HO4.out.nxt (below_one (o := .cells #[.slice (some ⟨g, 0, none⟩) q c4, .int .i64 0, .int .i64 (q : Int), .int .i64 1] 30)))
      have HRu5 := Lib.hid (HRu4.out.below (below_one (o := .cells #[.slice (some ⟨g, 0, none⟩) q c4, .int .i64 0, .int .i64 (q : Int), .int .i64 1] 30)))
      have HRd5 := Lib.hid (HRd4.out.below (below_one (o := .cells #[.slice (some ⟨g, 0, none⟩) q c4, .int .i64 0, .int .i64 (q : Int), .int .i64 1] 30)))
      have HB5 := Lib.hid (below_al HB4.out (o := (.cells #[.slice (some ⟨g, 0, none⟩) q c4, .int .i64 0, .int .i64 (q : Int), .int .i64 1] 30)))
      have HXp := Lib.hid HO4.out.lt
      obtain ⟨x0, x1, x2, x3⟩ := cells4w HX5.out
      go_wp2_with fail
      refine (HSh.out _ g c4 l UU Bu cu HO5.out Hl.out HW.out HRu5.out HBu.out).mono ?_
      rintro e w6 ⟨rfl, m, hm, ho, hc⟩
      have HM := Lib.hid hm
      have HWm := Lib.hid (wds_of hm.1 (fun j hj => by rw [hm.2 j hj]; exact Fl.scale_lt (getD_wds HW.out _) _))
      have HO6 := Lib.hid ho
      have HX6 := Lib.hid (hc.blk (by simp; have := HXp.out; omega) HX5.out)
      have HRd6 := Lib.hid (hc.row (fun b y e => by simp; exact HBd.out b y e) HRd5.out)
      have HB6 := Lib.hid (hc.below HB5.out HB5.out.size (fun x hx => by simp at hx; subst hx; exact HGz.out))
      clear hm ho hc x0 x1 x2 x3
      obtain ⟨x0, x1, x2, x3⟩ := cells4w HX6.out
      go_wp2_with fail
      refine (HFn.out _ _ _ _ HM.out.1 HWm.out HO6.out.row).mono ?_
      rintro e w7 ⟨rfl, rfl⟩
      obtain ⟨fb, hfb⟩ : ∃ fb, m.all Fl.fin = fb := ⟨_, rfl⟩
      have HFb := Lib.hid hfb
      rw [hfb]
      clear hfb
      go_wp2_with fail
      refine (HSh.out _ g c4 m DD Bd cd HO6.out HM.out.1 HWm.out HRd6.out HBd.out).mono ?_
      rintro e w8 ⟨rfl, m2, hm2, ho, hc⟩
      have HM2 := Lib.hid hm2
      have HO8 := Lib.hid ho
      have HX8 := Lib.hid (hc.blk (by simp; have := HXp.out; omega) HX6.out)
      have HB8 := Lib.hid (hc.below HB6.out HB6.out.size (fun x hx => by simp at hx; subst hx; exact HGz.out))
      clear hm2 ho hc x0 x1 x2 x3
      obtain ⟨x0, x1, x2, x3⟩ := cells4w HX8.out
      cases fb
      · go_wp2_with fail
        refine (awake6_any _).mono ?_
        rintro e w9 ⟨rfl, hb⟩
        have HB9 := Lib.hid (below_nx HB8.out hb)
        clear hb x0 x1 x2 x3
        go_wp2_with fail
        go_ret
        exact ⟨rfl, HB9.out⟩
      · have hml := HBk.out m m2 HM.out HM2.out HFb.out
        have HO9 := Lib.hid (show Own w8 g l by rw [← hml]; exact HO8.out)
        clear hml
        go_wp2_with fail
        refine (HAll.out _ _ _ _ _ HO9.out.row (HA.out.below HB8.out)).mono ?_
        rintro e w9 ⟨rfl, hb⟩
        have HB9 := Lib.hid (below_nx HB8.out hb)
        clear hb x0 x1 x2 x3
        go_wp2_with fail
        refine (awake6_any _).mono ?_
        rintro e w10 ⟨rfl, hb⟩
        have HB10 := Lib.hid (below_nx HB9.out hb)
        clear hb
        go_wp2_with fail
        go_ret
        exact ⟨rfl, HB10.out⟩
end Go.Proofs.Ytjjneiidggcfdaa
set_option linter.unusedVariables false
set_option linter.unusedSimpArgs false
set_option linter.unnecessarySimpa false
namespace Go.Proofs.Ytjjneiidggcfdaa
open Go.RowKit
attribute [local go_sem ↓] Go.wp_at_zero Go.wp_at_succ


theorem axesBack_long (A : Option Addr) (n c : Nat) (Ak : Option Addr) (n' c' : Nat) (w : World) (h : 60 < n ∨ n ≤ 60 ∧ n' < n) :
    Calls Try.prog 7 #[.slice A n c, .slice Ak n' c'] w fun e w' => e = .returned (.bool true) ∧ Below w.heap.size w w' := by
  rcases h with h | ⟨h, h2⟩
  · have hn60 : decide ((60 : Int) < (n : Int)) = true := by simp; omega
    go_enter Try.func7, Try.ntmps7
    go_wp2_with fail
    refine (awake6_any _).mono ?_
    rintro e w1 ⟨rfl, hb⟩
    have HB1 := Lib.hid hb
    clear hb
    go_wp2_with fail
    refine (awake6_any _).mono ?_
    rintro e w2 ⟨rfl, hb⟩
    have HB2 := Lib.hid (below_nx HB1.out hb)
    clear hb
    go_wp2_with fail
    go_ret
    exact ⟨rfl, HB2.out⟩
  · have hn60 : decide ((60 : Int) < (n : Int)) = false := by simp; omega
    have hnn2 : decide (n' < n) = true := by simp; omega
    go_enter Try.func7, Try.ntmps7
    go_wp2_with fail
    refine (awake6_any _).mono ?_
    rintro e w1 ⟨rfl, hb⟩
    have HB1 := Lib.hid hb
    clear hb
    go_wp2_with fail
    refine (awake6_any _).mono ?_
    rintro e w2 ⟨rfl, hb⟩
    have HB2 := Lib.hid (below_nx HB1.out hb)
    clear hb
    go_wp2_with fail
    go_ret
    exact ⟨rfl, HB2.out⟩
theorem axesBack_walk (A : Option Addr) (c : Nat) (l : List Nat) (Ak : Option Addr) (c' : Nat) (kk : List Nat) (w : World) (hA : Row w A (f64s l)) (hW : Wds l) (hK : Row w Ak (u8s kk)) (hk : ∀ z ∈ kk, z < 256) (hn' : kk.length < 9223372036854775808) :
    Calls Try.prog 7 #[.slice A l.length c, .slice Ak kk.length c'] w fun e w' => e = .returned (.bool true) ∧ Below w.heap.size w w' := by
  by_cases h : l.length ≤ 60
  · by_cases h2 : l.length ≤ kk.length
    · exact axesBack_ok A _ c l Ak _ c' kk w hA hW rfl h hK hk rfl h2 hn'
    · exact axesBack_long A _ c Ak _ c' w (.inr ⟨h, by omega⟩)
  · exact axesBack_long A _ c Ak _ c' w (.inl (by omega))
end Go.Proofs.Ytjjneiidggcfdaa
