/-
The document's MulT. Conditions: the lists have fewer than 2^20 numbers.
-/
import Derived.Test.YtodoibioedelgaaZGvH
set_option linter.unusedVariables false
set_option linter.unusedSimpArgs false
set_option linter.unnecessarySimpa false
namespace Go.Proofs.Ytodoibioedelgaa
open Go.RowKit
attribute [local go_sem ↓] Go.wp_at_zero Go.wp_at_succ

/-- What MulT makes of a number. -/
def RTurnQ (a b : Nat) (T : List Nat) (R C : Nat) (X Y : List Nat) (q r : Nat) : Prop := ∃ s, BegR b (Y.getD q 0) s ∧ TurnR a (dotF (lst T q C R) X R) s r
/-- A value is a list of these numbers. -/
def RowS (W : World) (v : Value) (n : Nat) (l : List Nat) : Prop := ∃ B d, v = .slice B n d ∧ Row W B (f64s l)
theorem RowS.below {W W' : World} {v : Value} {n : Nat} {l : List Nat} (h : RowS W v n l) (hb : Below W.heap.size W W') : RowS W' v n l := by
  obtain ⟨B, d, h1, h2⟩ := h
  exact ⟨B, d, h1, Row.below h2 hb⟩

set_option maxRecDepth 100000 in
set_option maxHeartbeats 2000000 in
theorem rgmult_any (a b : Nat) (R C gT N cT : Nat) (T : List Nat) (A : Option Addr) (nx c : Nat) (X : List Nat) (B : Option Addr) (ny d0 : Nat) (Y : List Nat) (w : World) (hT : Row w (some ⟨gT, 0, none⟩) (f64s T)) (hTl : T.length = N) (hN : N < 1048576) (hRC : R * C = N) (hRb : R < 1048576) (hCb : C < 1048576) (hWT : Wds T) (hA : Row w A (f64s X)) (hXl : X.length = nx) (hWX : Wds X) (hB : Row w B (f64s Y)) (hYl : Y.length = ny) (hnx : nx < 1048576) (hny : ny < 1048576) (hxR : nx = R) (hyC : C ≤ ny) :
    Calls Try.prog 20 #[.float .f64 a, .agg #[.int .i64 R, .int .i64 C, .slice (some ⟨gT, 0, none⟩) N cT], .slice A nx c, .float .f64 b, .slice B ny d0] w (RetL (RTurnQ a b T R C X Y) C w) := by
  have hxR2 := hxR.symm
  subst hxR2
  obtain ⟨i0, hi, hz0, hz1, hz2⟩ := fi0
  have HTr := Lib.hid hT
  have HA := Lib.hid hA
  have HB := Lib.hid hB
  have HYl := Lib.hid hYl
  have HCo0 := Lib.hid (fun W (q : Nat) (hq : q < C) (h : Row W (some ⟨gT, 0, none⟩) (f64s T)) => rcol_any R C gT N cT T q W h hTl hN hRC hq hRb)
  have HDt0 := Lib.hid (fun W (q : Nat) (B0 : Option Addr) (d1 : Nat) (h : Row W B0 (f64s (lst T q C R))) (h2 : Row W A (f64s X)) => rdot_any B0 A R d1 c (lst T q C R) X W h h2 (wds_lst2 hWT _ _ _) hWX (lst_length _ _ _ _) hXl hnx)
  clear hT hTl hN hRC hA hXl hB hYl hWT hWX
  go_enter Try.func20, Try.ntmps20
  have HZ := Lib.hid (Blk.new w 40 #[.int .i64 R, .int .i64 C, .slice (some ⟨gT, 0, none⟩) N cT])
  have hb0 : Below w.heap.size w (w.alloc (.cells #[.int .i64 R, .int .i64 C, .slice (some ⟨gT, 0, none⟩) N cT] 40)) := (Below.refl w.heap.size w).alloc (Nat.le_refl _) (.cells #[.int .i64 R, .int .i64 C, .slice (some ⟨gT, 0, none⟩) N cT] 40)
  have HTr1 := Lib.hid (HTr.out.below hb0)
  clear HTr
  have HA1 := Lib.hid (HA.out.below hb0)
  clear HA
  have HB1 := Lib.hid (HB.out.below hb0)
  clear HB
  have HB0 := Lib.hid hb0
  clear hb0
  go_wp2_with fail
  generalize hw1 : w.alloc (.cells #[.int .i64 R, .int .i64 C, .slice (some ⟨gT, 0, none⟩) N cT] 40) = w1 at *
  have Hz := Lib.hid (show w.heap.size < w1.heap.size from HZ.out.lt)
  generalize hzt : w.heap.size = zt at *
  have Hzt := Lib.hid hzt
  clear hw1 hzt
  go_loopw [11, 12] (fun out i wr => ∃ (q : Nat) (L : List Nat), q ≤ C ∧ i = .int .i64 q ∧ Hid (L.length = q ∧ ∀ j, j < q → (RTurnQ a b T R C X Y) j (L.getD j 0)) ∧ wr.ownsRow w1.heap.size 22 1 out q (f64s L) ∧ Below w1.heap.size w1 wr) (fun _ i _ => C - (intOf i).toNat)
  case atStart => exact ⟨0, [], Nat.zero_le _, rfl, Lib.hid ⟨rfl, fun j h => by omega⟩, World.ownsRow_nil _ _ _ _, Below.refl _ _⟩
  case round =>
    obtain ⟨q, L, hq, rfl, HL, hown, hbl⟩ := hrel
    have HBl := Lib.hid hbl
    have HOw0 := Lib.hid hown
    clear hown hbl
    obtain ⟨t0, t1, t2⟩ := cells3v (HZ.out.below HBl.out HZ.out.lt)
    by_cases hlt : q < C
    · have hqc : (q : Int) < (C : Int) := by omega
      have hq0 : (0 : Int) ≤ (q : Int) := by omega
      have hq1 : q + 1 ≤ 1048576 := by omega
      have hql : q < Y.length := by rw [HYl.out]; omega
      obtain ⟨b2, y2, rfl, _, hcy0⟩ := HB1.out.at_ (f64s_get Y q hql)
      have hcy := cell_below hcy0 HBl.out
      rw [← getD_of_lt hql] at hcy
      have bq : q < ny := by omega
      obtain ⟨y, hy⟩ : ∃ y, Y.getD q 0 = y := ⟨_, rfl⟩
      rw [hy] at hcy
      have HYc := Lib.hid hcy
      obtain ⟨D, hD⟩ : ∃ D, dotF (lst T q C R) X R = D := ⟨_, rfl⟩
      obtain ⟨QQ, hQQ⟩ : ∃ QQ, (RTurnQ a b T R C X Y) q = QQ := ⟨_, rfl⟩
      have HQ := Lib.hid (fun s0 p dd r (h1 : BegR b y s0) (h2 : Is dd D) (h3 : Comes .mul a dd p) (h4 : Comes .add s0 p r) => show QQ r from by
        rw [← hQQ]
        refine ⟨s0, by rw [hy]; exact h1, dd, p, by rw [hD]; exact h2, h3, h4⟩)
      have HQc := Lib.hid (fun r (h : QQ r) => show (RTurnQ a b T R C X Y) q r by rw [hQQ]; exact h)
      have HCo := Lib.hid (fun W (hb : Below wr.heap.size wr W) => HCo0.out W q hlt ((HTr1.out.below HBl.out).below hb))
      have HDt := Lib.hid (fun W (B0 : Option Addr) (d1 : Nat) (hb : Below wr.heap.size wr W) (h : Row W B0 (f64s (lst T q C R))) => by
        have := HDt0.out W q B0 d1 h ((HA1.out.below HBl.out).below hb)
        rw [hD] at this
        exact this)
      have HZr := Lib.hid (HZ.out.below HBl.out HZ.out.lt)
      have HOw := Lib.hid (show wr.ownsRow w1.heap.size 22 1 u11 (f64s L).length (f64s L) from by
        have e : (f64s L).length = q := by simp [f64s, HL.out.1]
        rw [e]; exact HOw0.out)
      have HLe := Lib.hid (show (f64s L).length + 1 ≤ 1048576 by simp [f64s, HL.out.1]; omega)
      have HLf := Lib.hid (show (f64s L).length + 1 = q + 1 by simp [f64s, HL.out.1])
      clear hcy0 hql hy hcy hD hQQ
      go_wp2_with fail
      clear t0 t1 t2
      refine wp_region_inv [19, 20, 21, 22, 23, 24, 25, 26, 27, 28, 29, 30, 31, 32, 33, 34, 35, 11] (fun d s W => (d 0 = true → s 19 = u11) ∧ (d 1 = true → s 20 = .float .f64 b) ∧ (d 2 = true → s 21 = .slice (some ⟨b2, y2, none⟩) ny d0) ∧ (d 3 = true → s 22 = .int .i64 (q : Int)) ∧ (d 4 = true → s 23 = .pointer (some ⟨b2, y2 + q, none⟩)) ∧ (d 5 = true → s 24 = .float .f64 y) ∧ (d 6 = true → ∃ s0, s 25 = .float .f64 s0 ∧ BegR b y s0) ∧ (d 7 = true → s 26 = .float .f64 a) ∧ (d 8 = true → s 27 = .agg #[.int .i64 (R : Int), .int .i64 (C : Int), .slice (some ⟨gT, 0, none⟩) N cT]) ∧ (d 9 = true → s 28 = .int .i64 (q : Int)) ∧ (d 10 = true → (d 16 = false → RowS W (s 29) R (lst T q C R))) ∧ (d 11 = true → s 30 = .slice A R c) ∧ (d 12 = true → ∃ r, s 31 = .float .f64 r ∧ Is r D) ∧ (d 13 = true → ∃ p, s 32 = .float .f64 p ∧ ∃ dd, Is dd D ∧ Comes .mul a dd p) ∧ (d 14 = true → ∃ r, s 33 = .float .f64 r ∧ QQ r) ∧ (d 17 = true → s 11 = s 35) ∧ (d 17 = true → d 16 = true) ∧ (d 17 = true → d 0 = true) ∧ (d 17 = false → s 11 = u11) ∧ (d 4 = true → d 2 = true ∧ d 3 = true) ∧ (d 5 = true → d 2 = true ∧ d 3 = true ∧ d 4 = true) ∧ (d 6 = true → d 1 = true ∧ d 2 = true ∧ d 3 = true ∧ d 4 = true ∧ d 5 = true) ∧ (d 10 = true → d 8 = true ∧ d 9 = true) ∧ (d 12 = true → d 8 = true ∧ d 9 = true ∧ d 10 = true ∧ d 11 = true) ∧ (d 13 = true → d 7 = true ∧ d 8 = true ∧ d 9 = true ∧ d 10 = true ∧ d 11 = true ∧ d 12 = true) ∧ (d 14 = true → d 1 = true ∧ d 2 = true ∧ d 3 = true ∧ d 4 = true ∧ d 5 = true ∧ d 6 = true ∧ d 7 = true ∧ d 8 = true ∧ d 9 = true ∧ d 10 = true ∧ d 11 = true ∧ d 12 = true ∧ d 13 = true) ∧ (d 15 = true → d 1 = true ∧ d 2 = true ∧ d 3 = true ∧ d 4 = true ∧ d 5 = true ∧ d 6 = true ∧ d 7 = true ∧ d 8 = true ∧ d 9 = true ∧ d 10 = true ∧ d 11 = true ∧ d 12 = true ∧ d 13 = true ∧ d 14 = true) ∧ (d 16 = true → d 0 = true ∧ d 1 = true ∧ d 2 = true ∧ d 3 = true ∧ d 4 = true ∧ d 5 = true ∧ d 6 = true ∧ d 7 = true ∧ d 8 = true ∧ d 9 = true ∧ d 10 = true ∧ d 11 = true ∧ d 12 = true ∧ d 13 = true ∧ d 14 = true ∧ d 15 = true) ∧ ApS w1.heap.size (f64s L) QQ w1 wr (d 15) (d 16) (s 34) (s 35) W)
        rfl (by kernel_rfl) ?_ ?_ ?_
      · exact ⟨by simp, by simp, by simp, by simp, by simp, by simp, by simp, by simp, by simp, by simp, by simp, by simp, by simp, by simp, by simp, by simp, by simp, by simp, fun _ => by simp, by simp, by simp, by simp, by simp, by simp, by simp, by simp, by simp, by simp, ⟨fun _ => ⟨(Below.refl _ _).drew, fun e => by simp at e⟩, fun e => by simp at e⟩⟩
      · refine ⟨?_, ?_, ?_, ?_, ?_, ?_, ?_, ?_, ?_, ?_, ?_, ?_, ?_, ?_, ?_, ?_, ?_, ?_, trivial⟩
        all_goals
          intro d s W hJ hfr hd hdep
          simp only [List.mem_cons, forall_eq_or_imp, List.not_mem_nil, false_implies, implies_true, and_true, Region.binds] at hdep
          have f0 := hfr 0 (by decide)
          have f2 := hfr 2 (by decide)
          have f3 := hfr 3 (by decide)
          have f4 := hfr 4 (by decide)
          have f6 := hfr 6 (by decide)
          have f12 := hfr 12 (by decide)
          simp at f0 f2 f3 f4 f6 f12 hdep
          obtain ⟨h0, h1, h2, h3, h4, h5, h6, h7, h8, h9, h10, h11, h12, h13, h14, h17, x0, x1, x2, x3, x4, x5, x6, x7, x8, x9, x10, x11, hT⟩ := hJ
        · have hl : d 16 = false := by
            cases h : d 16
            · rfl
            · have := x11 h; simp [hd] at this
          rw [hl] at hT
          unfold OpSteps
          have e11 : d 17 = false := by
            cases h : d 17
            · rfl
            · have := x1 h; simp [hd] at this
          have f11 := x2 e11
          simp [go_sem, evS, f11]
          exact ⟨fun _ => by simp [sput], fun h => by simpa [sput] using h1 (by simpa [did] using h), fun h => by simpa [sput] using h2 (by simpa [did] using h), fun h => by simpa [sput] using h3 (by simpa [did] using h), fun h => by simpa [sput] using h4 (by simpa [did] using h), fun h => by simpa [sput] using h5 (by simpa [did] using h), fun h => by simpa [sput] using h6 (by simpa [did] using h), fun h => by simpa [sput] using h7 (by simpa [did] using h), fun h => by simpa [sput] using h8 (by simpa [did] using h), fun h => by simpa [sput] using h9 (by simpa [did] using h), fun h e => by simpa [sput] using (h10 (by simpa [did] using h) (by simpa [did] using e)), fun h => by simpa [sput] using h11 (by simpa [did] using h), fun h => by simpa [sput] using h12 (by simpa [did] using h), fun h => by simpa [sput] using h13 (by simpa [did] using h), fun h => by simpa [sput] using h14 (by simpa [did] using h), fun h => by simpa [sput] using h17 (by simpa [did] using h), by simpa [sput, did] using x0, fun h => by have := x1 (by simpa [did] using h); simp [did, this], fun h => by simpa [sput] using x2 (by simpa [did] using h), fun h => by have := x3 (by simpa [did] using h); simp [did, this], fun h => by have := x4 (by simpa [did] using h); simp [did, this], fun h => by have := x5 (by simpa [did] using h); simp [did, this], fun h => by have := x6 (by simpa [did] using h); simp [did, this], fun h => by have := x7 (by simpa [did] using h); simp [did, this], fun h => by have := x8 (by simpa [did] using h); simp [did, this], fun h => by have := x9 (by simpa [did] using h); simp [did, this], fun h => by have := x10 (by simpa [did] using h); simp [did, this], fun h => by have := x11 (by simpa [did] using h); simp [did, this], by simpa [did, sput, hl] using hT⟩
        · have hl : d 16 = false := by
            cases h : d 16
            · rfl
            · have := x11 h; simp [hd] at this
          rw [hl] at hT
          unfold OpSteps
          simp [go_sem, evS, f3]
          exact ⟨fun h => by simpa [sput] using h0 (by simpa [did] using h), fun _ => by simp [sput], fun h => by simpa [sput] using h2 (by simpa [did] using h), fun h => by simpa [sput] using h3 (by simpa [did] using h), fun h => by simpa [sput] using h4 (by simpa [did] using h), fun h => by simpa [sput] using h5 (by simpa [did] using h), fun h => by simpa [sput] using h6 (by simpa [did] using h), fun h => by simpa [sput] using h7 (by simpa [did] using h), fun h => by simpa [sput] using h8 (by simpa [did] using h), fun h => by simpa [sput] using h9 (by simpa [did] using h), fun h e => by simpa [sput] using (h10 (by simpa [did] using h) (by simpa [did] using e)), fun h => by simpa [sput] using h11 (by simpa [did] using h), fun h => by simpa [sput] using h12 (by simpa [did] using h), fun h => by simpa [sput] using h13 (by simpa [did] using h), fun h => by simpa [sput] using h14 (by simpa [did] using h), fun h => by simpa [sput] using h17 (by simpa [did] using h), by simpa [sput, did] using x0, fun h => by have := x1 (by simpa [did] using h); simp [did, this], fun h => by simpa [sput] using x2 (by simpa [did] using h), fun h => by have := x3 (by simpa [did] using h); simp [did, this], fun h => by have := x4 (by simpa [did] using h); simp [did, this], fun h => by have := x5 (by simpa [did] using h); simp [did, this], fun h => by have := x6 (by simpa [did] using h); simp [did, this], fun h => by have := x7 (by simpa [did] using h); simp [did, this], fun h => by have := x8 (by simpa [did] using h); simp [did, this], fun h => by have := x9 (by simpa [did] using h); simp [did, this], fun h => by have := x10 (by simpa [did] using h); simp [did, this], fun h => by have := x11 (by simpa [did] using h); simp [did, this], by simpa [did, sput, hl] using hT⟩
        · have hl : d 16 = false := by
            cases h : d 16
            · rfl
            · have := x11 h; simp [hd] at this
          rw [hl] at hT
          unfold OpSteps
          simp [go_sem, evS, f4]
          exact ⟨fun h => by simpa [sput] using h0 (by simpa [did] using h), fun h => by simpa [sput] using h1 (by simpa [did] using h), fun _ => by simp [sput], fun h => by simpa [sput] using h3 (by simpa [did] using h), fun h => by simpa [sput] using h4 (by simpa [did] using h), fun h => by simpa [sput] using h5 (by simpa [did] using h), fun h => by simpa [sput] using h6 (by simpa [did] using h), fun h => by simpa [sput] using h7 (by simpa [did] using h), fun h => by simpa [sput] using h8 (by simpa [did] using h), fun h => by simpa [sput] using h9 (by simpa [did] using h), fun h e => by simpa [sput] using (h10 (by simpa [did] using h) (by simpa [did] using e)), fun h => by simpa [sput] using h11 (by simpa [did] using h), fun h => by simpa [sput] using h12 (by simpa [did] using h), fun h => by simpa [sput] using h13 (by simpa [did] using h), fun h => by simpa [sput] using h14 (by simpa [did] using h), fun h => by simpa [sput] using h17 (by simpa [did] using h), by simpa [sput, did] using x0, fun h => by have := x1 (by simpa [did] using h); simp [did, this], fun h => by simpa [sput] using x2 (by simpa [did] using h), fun h => by have := x3 (by simpa [did] using h); simp [did, this], fun h => by have := x4 (by simpa [did] using h); simp [did, this], fun h => by have := x5 (by simpa [did] using h); simp [did, this], fun h => by have := x6 (by simpa [did] using h); simp [did, this], fun h => by have := x7 (by simpa [did] using h); simp [did, this], fun h => by have := x8 (by simpa [did] using h); simp [did, this], fun h => by have := x9 (by simpa [did] using h); simp [did, this], fun h => by have := x10 (by simpa [did] using h); simp [did, this], fun h => by have := x11 (by simpa [did] using h); simp [did, this], by simpa [did, sput, hl] using hT⟩
        · have hl : d 16 = false := by
            cases h : d 16
            · rfl
            · have := x11 h; simp [hd] at this
          rw [hl] at hT
          unfold OpSteps
          simp [go_sem, evS, f12]
          exact ⟨fun h => by simpa [sput] using h0 (by simpa [did] using h), fun h => by simpa [sput] using h1 (by simpa [did] using h), fun h => by simpa [sput] using h2 (by simpa [did] using h), fun _ => by simp [sput], fun h => by simpa [sput] using h4 (by simpa [did] using h), fun h => by simpa [sput] using h5 (by simpa [did] using h), fun h => by simpa [sput] using h6 (by simpa [did] using h), fun h => by simpa [sput] using h7 (by simpa [did] using h), fun h => by simpa [sput] using h8 (by simpa [did] using h), fun h => by simpa [sput] using h9 (by simpa [did] using h), fun h e => by simpa [sput] using (h10 (by simpa [did] using h) (by simpa [did] using e)), fun h => by simpa [sput] using h11 (by simpa [did] using h), fun h => by simpa [sput] using h12 (by simpa [did] using h), fun h => by simpa [sput] using h13 (by simpa [did] using h), fun h => by simpa [sput] using h14 (by simpa [did] using h), fun h => by simpa [sput] using h17 (by simpa [did] using h), by simpa [sput, did] using x0, fun h => by have := x1 (by simpa [did] using h); simp [did, this], fun h => by simpa [sput] using x2 (by simpa [did] using h), fun h => by have := x3 (by simpa [did] using h); simp [did, this], fun h => by have := x4 (by simpa [did] using h); simp [did, this], fun h => by have := x5 (by simpa [did] using h); simp [did, this], fun h => by have := x6 (by simpa [did] using h); simp [did, this], fun h => by have := x7 (by simpa [did] using h); simp [did, this], fun h => by have := x8 (by simpa [did] using h); simp [did, this], fun h => by have := x9 (by simpa [did] using h); simp [did, this], fun h => by have := x10 (by simpa [did] using h); simp [did, this], fun h => by have := x11 (by simpa [did] using h); simp [did, this], by simpa [did, sput, hl] using hT⟩
        · have hl : d 16 = false := by
            cases h : d 16
            · rfl
            · have := x11 h; simp [hd] at this
          rw [hl] at hT
          have g2 := h2 (by simp [hdep])
          have g3 := h3 (by simp [hdep])
          unfold OpSteps
          simp [go_sem, evS, g2, g3, bq]
          exact ⟨fun h => by simpa [sput] using h0 (by simpa [did] using h), fun h => by simpa [sput] using h1 (by simpa [did] using h), fun h => by simpa [sput] using h2 (by simpa [did] using h), fun h => by simpa [sput] using h3 (by simpa [did] using h), fun _ => by simp [sput], fun h => by simpa [sput] using h5 (by simpa [did] using h), fun h => by simpa [sput] using h6 (by simpa [did] using h), fun h => by simpa [sput] using h7 (by simpa [did] using h), fun h => by simpa [sput] using h8 (by simpa [did] using h), fun h => by simpa [sput] using h9 (by simpa [did] using h), fun h e => by simpa [sput] using (h10 (by simpa [did] using h) (by simpa [did] using e)), fun h => by simpa [sput] using h11 (by simpa [did] using h), fun h => by simpa [sput] using h12 (by simpa [did] using h), fun h => by simpa [sput] using h13 (by simpa [did] using h), fun h => by simpa [sput] using h14 (by simpa [did] using h), fun h => by simpa [sput] using h17 (by simpa [did] using h), by simpa [sput, did] using x0, fun h => by have := x1 (by simpa [did] using h); simp [did, this], fun h => by simpa [sput] using x2 (by simpa [did] using h), fun _ => by simp [did, hdep], fun h => by have := x4 (by simpa [did] using h); simp [did, this], fun h => by have := x5 (by simpa [did] using h); simp [did, this], fun h => by have := x6 (by simpa [did] using h); simp [did, this], fun h => by have := x7 (by simpa [did] using h); simp [did, this], fun h => by have := x8 (by simpa [did] using h); simp [did, this], fun h => by have := x9 (by simpa [did] using h); simp [did, this], fun h => by have := x10 (by simpa [did] using h); simp [did, this], fun h => by have := x11 (by simpa [did] using h); simp [did, this], by simpa [did, sput, hl] using hT⟩
        · have hl : d 16 = false := by
            cases h : d 16
            · rfl
            · have := x11 h; simp [hd] at this
          rw [hl] at hT
          have g4 := h4 (by simp [hdep])
          unfold OpSteps
          have pc := cell_below HYc.out (hT.1 rfl).1
          simp [go_sem, evS, g4, pc]
          exact ⟨fun h => by simpa [sput] using h0 (by simpa [did] using h), fun h => by simpa [sput] using h1 (by simpa [did] using h), fun h => by simpa [sput] using h2 (by simpa [did] using h), fun h => by simpa [sput] using h3 (by simpa [did] using h), fun h => by simpa [sput] using h4 (by simpa [did] using h), fun _ => by simp [sput], fun h => by simpa [sput] using h6 (by simpa [did] using h), fun h => by simpa [sput] using h7 (by simpa [did] using h), fun h => by simpa [sput] using h8 (by simpa [did] using h), fun h => by simpa [sput] using h9 (by simpa [did] using h), fun h e => by simpa [sput] using (h10 (by simpa [did] using h) (by simpa [did] using e)), fun h => by simpa [sput] using h11 (by simpa [did] using h), fun h => by simpa [sput] using h12 (by simpa [did] using h), fun h => by simpa [sput] using h13 (by simpa [did] using h), fun h => by simpa [sput] using h14 (by simpa [did] using h), fun h => by simpa [sput] using h17 (by simpa [did] using h), by simpa [sput, did] using x0, fun h => by have := x1 (by simpa [did] using h); simp [did, this], fun h => by simpa [sput] using x2 (by simpa [did] using h), fun h => by have := x3 (by simpa [did] using h); simp [did, this], fun _ => by have y4 := x3 (by simp [hdep]); simp [did, hdep, y4], fun h => by have := x5 (by simpa [did] using h); simp [did, this], fun h => by have := x6 (by simpa [did] using h); simp [did, this], fun h => by have := x7 (by simpa [did] using h); simp [did, this], fun h => by have := x8 (by simpa [did] using h); simp [did, this], fun h => by have := x9 (by simpa [did] using h); simp [did, this], fun h => by have := x10 (by simpa [did] using h); simp [did, this], fun h => by have := x11 (by simpa [did] using h); simp [did, this], by simpa [did, sput, hl] using hT⟩
        · have hl : d 16 = false := by
            cases h : d 16
            · rfl
            · have := x11 h; simp [hd] at this
          rw [hl] at hT
          have g1 := h1 (by simp [hdep])
          have g5 := h5 (by simp [hdep])
          unfold OpSteps
          simp [go_sem, evS, g1, g5]
          refine (rgbegin_any b y W).mono ?_
          rintro e W' ⟨s0, rfl, hs, hb⟩
          refine ⟨_, rfl, ?_⟩
          exact ⟨fun h => by simpa [sput] using h0 (by simpa [did] using h), fun h => by simpa [sput] using h1 (by simpa [did] using h), fun h => by simpa [sput] using h2 (by simpa [did] using h), fun h => by simpa [sput] using h3 (by simpa [did] using h), fun h => by simpa [sput] using h4 (by simpa [did] using h), fun h => by simpa [sput] using h5 (by simpa [did] using h), fun _ => ⟨s0, by simp [sput], hs⟩, fun h => by simpa [sput] using h7 (by simpa [did] using h), fun h => by simpa [sput] using h8 (by simpa [did] using h), fun h => by simpa [sput] using h9 (by simpa [did] using h), fun h e => by simpa [sput] using (h10 (by simpa [did] using h) (by simpa [did] using e)).below hb, fun h => by simpa [sput] using h11 (by simpa [did] using h), fun h => by simpa [sput] using h12 (by simpa [did] using h), fun h => by simpa [sput] using h13 (by simpa [did] using h), fun h => by simpa [sput] using h14 (by simpa [did] using h), fun h => by simpa [sput] using h17 (by simpa [did] using h), by simpa [sput, did] using x0, fun h => by have := x1 (by simpa [did] using h); simp [did, this], fun h => by simpa [sput] using x2 (by simpa [did] using h), fun h => by have := x3 (by simpa [did] using h); simp [did, this], fun h => by have := x4 (by simpa [did] using h); simp [did, this], fun _ => by have y5 := x4 (by simp [hdep]); simp [did, hdep, y5], fun h => by have := x6 (by simpa [did] using h); simp [did, this], fun h => by have := x7 (by simpa [did] using h); simp [did, this], fun h => by have := x8 (by simpa [did] using h); simp [did, this], fun h => by have := x9 (by simpa [did] using h); simp [did, this], fun h => by have := x10 (by simpa [did] using h); simp [did, this], fun h => by have := x11 (by simpa [did] using h); simp [did, this], by simpa [did, sput, hl] using hT.nxt hb⟩
        · have hl : d 16 = false := by
            cases h : d 16
            · rfl
            · have := x11 h; simp [hd] at this
          rw [hl] at hT
          unfold OpSteps
          simp [go_sem, evS, f0]
          exact ⟨fun h => by simpa [sput] using h0 (by simpa [did] using h), fun h => by simpa [sput] using h1 (by simpa [did] using h), fun h => by simpa [sput] using h2 (by simpa [did] using h), fun h => by simpa [sput] using h3 (by simpa [did] using h), fun h => by simpa [sput] using h4 (by simpa [did] using h), fun h => by simpa [sput] using h5 (by simpa [did] using h), fun h => by simpa [sput] using h6 (by simpa [did] using h), fun _ => by simp [sput], fun h => by simpa [sput] using h8 (by simpa [did] using h), fun h => by simpa [sput] using h9 (by simpa [did] using h), fun h e => by simpa [sput] using (h10 (by simpa [did] using h) (by simpa [did] using e)), fun h => by simpa [sput] using h11 (by simpa [did] using h), fun h => by simpa [sput] using h12 (by simpa [did] using h), fun h => by simpa [sput] using h13 (by simpa [did] using h), fun h => by simpa [sput] using h14 (by simpa [did] using h), fun h => by simpa [sput] using h17 (by simpa [did] using h), by simpa [sput, did] using x0, fun h => by have := x1 (by simpa [did] using h); simp [did, this], fun h => by simpa [sput] using x2 (by simpa [did] using h), fun h => by have := x3 (by simpa [did] using h); simp [did, this], fun h => by have := x4 (by simpa [did] using h); simp [did, this], fun h => by have := x5 (by simpa [did] using h); simp [did, this], fun h => by have := x6 (by simpa [did] using h); simp [did, this], fun h => by have := x7 (by simpa [did] using h); simp [did, this], fun h => by have := x8 (by simpa [did] using h); simp [did, this], fun h => by have := x9 (by simpa [did] using h); simp [did, this], fun h => by have := x10 (by simpa [did] using h); simp [did, this], fun h => by have := x11 (by simpa [did] using h); simp [did, this], by simpa [did, sput, hl] using hT⟩
        · have hl : d 16 = false := by
            cases h : d 16
            · rfl
            · have := x11 h; simp [hd] at this
          rw [hl] at hT
          unfold OpSteps
          obtain ⟨p0, p1, p2⟩ := cells3v (HZr.out.below (hT.1 rfl).1 HZr.out.lt)
          simp [go_sem, evS, f6, p0, p1, p2]
          exact ⟨fun h => by simpa [sput] using h0 (by simpa [did] using h), fun h => by simpa [sput] using h1 (by simpa [did] using h), fun h => by simpa [sput] using h2 (by simpa [did] using h), fun h => by simpa [sput] using h3 (by simpa [did] using h), fun h => by simpa [sput] using h4 (by simpa [did] using h), fun h => by simpa [sput] using h5 (by simpa [did] using h), fun h => by simpa [sput] using h6 (by simpa [did] using h), fun h => by simpa [sput] using h7 (by simpa [did] using h), fun _ => by simp [sput], fun h => by simpa [sput] using h9 (by simpa [did] using h), fun h e => by simpa [sput] using (h10 (by simpa [did] using h) (by simpa [did] using e)), fun h => by simpa [sput] using h11 (by simpa [did] using h), fun h => by simpa [sput] using h12 (by simpa [did] using h), fun h => by simpa [sput] using h13 (by simpa [did] using h), fun h => by simpa [sput] using h14 (by simpa [did] using h), fun h => by simpa [sput] using h17 (by simpa [did] using h), by simpa [sput, did] using x0, fun h => by have := x1 (by simpa [did] using h); simp [did, this], fun h => by simpa [sput] using x2 (by simpa [did] using h), fun h => by have := x3 (by simpa [did] using h); simp [did, this], fun h => by have := x4 (by simpa [did] using h); simp [did, this], fun h => by have := x5 (by simpa [did] using h); simp [did, this], fun h => by have := x6 (by simpa [did] using h); simp [did, this], fun h => by have := x7 (by simpa [did] using h); simp [did, this], fun h => by have := x8 (by simpa [did] using h); simp [did, this], fun h => by have := x9 (by simpa [did] using h); simp [did, this], fun h => by have := x10 (by simpa [did] using h); simp [did, this], fun h => by have := x11 (by simpa [did] using h); simp [did, this], by simpa [did, sput, hl] using hT⟩
        · have hl : d 16 = false := by
            cases h : d 16
            · rfl
            · have := x11 h; simp [hd] at this
          rw [hl] at hT
          unfold OpSteps
          simp [go_sem, evS, f12]
          exact ⟨fun h => by simpa [sput] using h0 (by simpa [did] using h), fun h => by simpa [sput] using h1 (by simpa [did] using h), fun h => by simpa [sput] using h2 (by simpa [did] using h), fun h => by simpa [sput] using h3 (by simpa [did] using h), fun h => by simpa [sput] using h4 (by simpa [did] using h), fun h => by simpa [sput] using h5 (by simpa [did] using h), fun h => by simpa [sput] using h6 (by simpa [did] using h), fun h => by simpa [sput] using h7 (by simpa [did] using h), fun h => by simpa [sput] using h8 (by simpa [did] using h), fun _ => by simp [sput], fun h e => by simpa [sput] using (h10 (by simpa [did] using h) (by simpa [did] using e)), fun h => by simpa [sput] using h11 (by simpa [did] using h), fun h => by simpa [sput] using h12 (by simpa [did] using h), fun h => by simpa [sput] using h13 (by simpa [did] using h), fun h => by simpa [sput] using h14 (by simpa [did] using h), fun h => by simpa [sput] using h17 (by simpa [did] using h), by simpa [sput, did] using x0, fun h => by have := x1 (by simpa [did] using h); simp [did, this], fun h => by simpa [sput] using x2 (by simpa [did] using h), fun h => by have := x3 (by simpa [did] using h); simp [did, this], fun h => by have := x4 (by simpa [did] using h); simp [did, this], fun h => by have := x5 (by simpa [did] using h); simp [did, this], fun h => by have := x6 (by simpa [did] using h); simp [did, this], fun h => by have := x7 (by simpa [did] using h); simp [did, this], fun h => by have := x8 (by simpa [did] using h); simp [did, this], fun h => by have := x9 (by simpa [did] using h); simp [did, this], fun h => by have := x10 (by simpa [did] using h); simp [did, this], fun h => by have := x11 (by simpa [did] using h); simp [did, this], by simpa [did, sput, hl] using hT⟩
        · have hl : d 16 = false := by
            cases h : d 16
            · rfl
            · have := x11 h; simp [hd] at this
          rw [hl] at hT
          have g8 := h8 (by simp [hdep])
          have g9 := h9 (by simp [hdep])
          unfold OpSteps
          simp [go_sem, evS, g8, g9]
          refine (HCo.out W (hT.1 rfl).1).mono ?_
          rintro e W' ⟨B0, d1, rfl, hr, hb⟩
          refine ⟨_, rfl, ?_⟩
          exact ⟨fun h => by simpa [sput] using h0 (by simpa [did] using h), fun h => by simpa [sput] using h1 (by simpa [did] using h), fun h => by simpa [sput] using h2 (by simpa [did] using h), fun h => by simpa [sput] using h3 (by simpa [did] using h), fun h => by simpa [sput] using h4 (by simpa [did] using h), fun h => by simpa [sput] using h5 (by simpa [did] using h), fun h => by simpa [sput] using h6 (by simpa [did] using h), fun h => by simpa [sput] using h7 (by simpa [did] using h), fun h => by simpa [sput] using h8 (by simpa [did] using h), fun h => by simpa [sput] using h9 (by simpa [did] using h), fun _ => fun _ => ⟨B0, d1, by simp [sput], hr⟩, fun h => by simpa [sput] using h11 (by simpa [did] using h), fun h => by simpa [sput] using h12 (by simpa [did] using h), fun h => by simpa [sput] using h13 (by simpa [did] using h), fun h => by simpa [sput] using h14 (by simpa [did] using h), fun h => by simpa [sput] using h17 (by simpa [did] using h), by simpa [sput, did] using x0, fun h => by have := x1 (by simpa [did] using h); simp [did, this], fun h => by simpa [sput] using x2 (by simpa [did] using h), fun h => by have := x3 (by simpa [did] using h); simp [did, this], fun h => by have := x4 (by simpa [did] using h); simp [did, this], fun h => by have := x5 (by simpa [did] using h); simp [did, this], fun _ => by simp [did, hdep], fun h => by have := x7 (by simpa [did] using h); simp [did, this], fun h => by have := x8 (by simpa [did] using h); simp [did, this], fun h => by have := x9 (by simpa [did] using h); simp [did, this], fun h => by have := x10 (by simpa [did] using h); simp [did, this], fun h => by have := x11 (by simpa [did] using h); simp [did, this], by simpa [did, sput, hl] using hT.nxt hb⟩
        · have hl : d 16 = false := by
            cases h : d 16
            · rfl
            · have := x11 h; simp [hd] at this
          rw [hl] at hT
          unfold OpSteps
          simp [go_sem, evS, f2]
          exact ⟨fun h => by simpa [sput] using h0 (by simpa [did] using h), fun h => by simpa [sput] using h1 (by simpa [did] using h), fun h => by simpa [sput] using h2 (by simpa [did] using h), fun h => by simpa [sput] using h3 (by simpa [did] using h), fun h => by simpa [sput] using h4 (by simpa [did] using h), fun h => by simpa [sput] using h5 (by simpa [did] using h), fun h => by simpa [sput] using h6 (by simpa [did] using h), fun h => by simpa [sput] using h7 (by simpa [did] using h), fun h => by simpa [sput] using h8 (by simpa [did] using h), fun h => by simpa [sput] using h9 (by simpa [did] using h), fun h e => by simpa [sput] using (h10 (by simpa [did] using h) (by simpa [did] using e)), fun _ => by simp [sput], fun h => by simpa [sput] using h12 (by simpa [did] using h), fun h => by simpa [sput] using h13 (by simpa [did] using h), fun h => by simpa [sput] using h14 (by simpa [did] using h), fun h => by simpa [sput] using h17 (by simpa [did] using h), by simpa [sput, did] using x0, fun h => by have := x1 (by simpa [did] using h); simp [did, this], fun h => by simpa [sput] using x2 (by simpa [did] using h), fun h => by have := x3 (by simpa [did] using h); simp [did, this], fun h => by have := x4 (by simpa [did] using h); simp [did, this], fun h => by have := x5 (by simpa [did] using h); simp [did, this], fun h => by have := x6 (by simpa [did] using h); simp [did, this], fun h => by have := x7 (by simpa [did] using h); simp [did, this], fun h => by have := x8 (by simpa [did] using h); simp [did, this], fun h => by have := x9 (by simpa [did] using h); simp [did, this], fun h => by have := x10 (by simpa [did] using h); simp [did, this], fun h => by have := x11 (by simpa [did] using h); simp [did, this], by simpa [did, sput, hl] using hT⟩
        · have hl : d 16 = false := by
            cases h : d 16
            · rfl
            · have := x11 h; simp [hd] at this
          rw [hl] at hT
          have g10 := h10 (by simp [hdep])
          have g11 := h11 (by simp [hdep])
          unfold OpSteps
          obtain ⟨B0, d1, gp, hr⟩ := g10 hl
          simp [go_sem, evS, g11, gp]
          refine (HDt.out W B0 d1 (hT.1 rfl).1 hr).mono ?_
          rintro e W' ⟨r, rfl, hr2, hb⟩
          refine ⟨_, rfl, ?_⟩
          exact ⟨fun h => by simpa [sput] using h0 (by simpa [did] using h), fun h => by simpa [sput] using h1 (by simpa [did] using h), fun h => by simpa [sput] using h2 (by simpa [did] using h), fun h => by simpa [sput] using h3 (by simpa [did] using h), fun h => by simpa [sput] using h4 (by simpa [did] using h), fun h => by simpa [sput] using h5 (by simpa [did] using h), fun h => by simpa [sput] using h6 (by simpa [did] using h), fun h => by simpa [sput] using h7 (by simpa [did] using h), fun h => by simpa [sput] using h8 (by simpa [did] using h), fun h => by simpa [sput] using h9 (by simpa [did] using h), fun h e => by simpa [sput] using (h10 (by simpa [did] using h) (by simpa [did] using e)).below hb, fun h => by simpa [sput] using h11 (by simpa [did] using h), fun _ => ⟨r, by simp [sput], hr2⟩, fun h => by simpa [sput] using h13 (by simpa [did] using h), fun h => by simpa [sput] using h14 (by simpa [did] using h), fun h => by simpa [sput] using h17 (by simpa [did] using h), by simpa [sput, did] using x0, fun h => by have := x1 (by simpa [did] using h); simp [did, this], fun h => by simpa [sput] using x2 (by simpa [did] using h), fun h => by have := x3 (by simpa [did] using h); simp [did, this], fun h => by have := x4 (by simpa [did] using h); simp [did, this], fun h => by have := x5 (by simpa [did] using h); simp [did, this], fun h => by have := x6 (by simpa [did] using h); simp [did, this], fun _ => by have y10 := x6 (by simp [hdep]); simp [did, hdep, y10], fun h => by have := x8 (by simpa [did] using h); simp [did, this], fun h => by have := x9 (by simpa [did] using h); simp [did, this], fun h => by have := x10 (by simpa [did] using h); simp [did, this], fun h => by have := x11 (by simpa [did] using h); simp [did, this], by simpa [did, sput, hl] using hT.nxt hb⟩
        · have hl : d 16 = false := by
            cases h : d 16
            · rfl
            · have := x11 h; simp [hd] at this
          rw [hl] at hT
          have g7 := h7 (by simp [hdep])
          have g12 := h12 (by simp [hdep])
          unfold OpSteps
          obtain ⟨dd, gp, hr⟩ := g12
          simp [go_sem, evS, g7, gp]
          refine (rtimes_any a dd W).mono ?_
          rintro e W' ⟨p, rfl, hp, hb⟩
          refine ⟨_, rfl, ?_⟩
          exact ⟨fun h => by simpa [sput] using h0 (by simpa [did] using h), fun h => by simpa [sput] using h1 (by simpa [did] using h), fun h => by simpa [sput] using h2 (by simpa [did] using h), fun h => by simpa [sput] using h3 (by simpa [did] using h), fun h => by simpa [sput] using h4 (by simpa [did] using h), fun h => by simpa [sput] using h5 (by simpa [did] using h), fun h => by simpa [sput] using h6 (by simpa [did] using h), fun h => by simpa [sput] using h7 (by simpa [did] using h), fun h => by simpa [sput] using h8 (by simpa [did] using h), fun h => by simpa [sput] using h9 (by simpa [did] using h), fun h e => by simpa [sput] using (h10 (by simpa [did] using h) (by simpa [did] using e)).below hb, fun h => by simpa [sput] using h11 (by simpa [did] using h), fun h => by simpa [sput] using h12 (by simpa [did] using h), fun _ => ⟨p, by simp [sput], dd, hr, hp⟩, fun h => by simpa [sput] using h14 (by simpa [did] using h), fun h => by simpa [sput] using h17 (by simpa [did] using h), by simpa [sput, did] using x0, fun h => by have := x1 (by simpa [did] using h); simp [did, this], fun h => by simpa [sput] using x2 (by simpa [did] using h), fun h => by have := x3 (by simpa [did] using h); simp [did, this], fun h => by have := x4 (by simpa [did] using h); simp [did, this], fun h => by have := x5 (by simpa [did] using h); simp [did, this], fun h => by have := x6 (by simpa [did] using h); simp [did, this], fun h => by have := x7 (by simpa [did] using h); simp [did, this], fun _ => by have y12 := x7 (by simp [hdep]); simp [did, hdep, y12], fun h => by have := x9 (by simpa [did] using h); simp [did, this], fun h => by have := x10 (by simpa [did] using h); simp [did, this], fun h => by have := x11 (by simpa [did] using h); simp [did, this], by simpa [did, sput, hl] using hT.nxt hb⟩
        · have hl : d 16 = false := by
            cases h : d 16
            · rfl
            · have := x11 h; simp [hd] at this
          rw [hl] at hT
          have g6 := h6 (by simp [hdep])
          have g13 := h13 (by simp [hdep])
          unfold OpSteps
          obtain ⟨p, gp, dd, hd1, hd2⟩ := g13
          obtain ⟨s0, gs, hs0⟩ := g6
          simp [go_sem, evS, gp, gs]
          refine (rplus_any s0 p W).mono ?_
          rintro e W' ⟨r, rfl, hr, hb⟩
          refine ⟨_, rfl, ?_⟩
          exact ⟨fun h => by simpa [sput] using h0 (by simpa [did] using h), fun h => by simpa [sput] using h1 (by simpa [did] using h), fun h => by simpa [sput] using h2 (by simpa [did] using h), fun h => by simpa [sput] using h3 (by simpa [did] using h), fun h => by simpa [sput] using h4 (by simpa [did] using h), fun h => by simpa [sput] using h5 (by simpa [did] using h), fun h => by simpa [sput] using h6 (by simpa [did] using h), fun h => by simpa [sput] using h7 (by simpa [did] using h), fun h => by simpa [sput] using h8 (by simpa [did] using h), fun h => by simpa [sput] using h9 (by simpa [did] using h), fun h e => by simpa [sput] using (h10 (by simpa [did] using h) (by simpa [did] using e)).below hb, fun h => by simpa [sput] using h11 (by simpa [did] using h), fun h => by simpa [sput] using h12 (by simpa [did] using h), fun h => by simpa [sput] using h13 (by simpa [did] using h), fun _ => ⟨r, by simp [sput], HQ.out s0 p dd r hs0 hd1 hd2 hr⟩, fun h => by simpa [sput] using h17 (by simpa [did] using h), by simpa [sput, did] using x0, fun h => by have := x1 (by simpa [did] using h); simp [did, this], fun h => by simpa [sput] using x2 (by simpa [did] using h), fun h => by have := x3 (by simpa [did] using h); simp [did, this], fun h => by have := x4 (by simpa [did] using h); simp [did, this], fun h => by have := x5 (by simpa [did] using h); simp [did, this], fun h => by have := x6 (by simpa [did] using h); simp [did, this], fun h => by have := x7 (by simpa [did] using h); simp [did, this], fun h => by have := x8 (by simpa [did] using h); simp [did, this], fun _ => by have y6 := x5 (by simp [hdep]); have y13 := x8 (by simp [hdep]); simp [did, hdep, y6, y13], fun h => by have := x10 (by simpa [did] using h); simp [did, this], fun h => by have := x11 (by simpa [did] using h); simp [did, this], by simpa [did, sput, hl] using hT.nxt hb⟩
        · have hl : d 16 = false := by
            cases h : d 16
            · rfl
            · have := x11 h; simp [hd] at this
          rw [hl] at hT
          have g14 := h14 (by simp [hdep])
          unfold OpSteps
          obtain ⟨r, gp, hr⟩ := g14
          simp [go_sem, evS, gp]
          exact ⟨fun h => by simpa [sput] using h0 (by simpa [did] using h), fun h => by simpa [sput] using h1 (by simpa [did] using h), fun h => by simpa [sput] using h2 (by simpa [did] using h), fun h => by simpa [sput] using h3 (by simpa [did] using h), fun h => by simpa [sput] using h4 (by simpa [did] using h), fun h => by simpa [sput] using h5 (by simpa [did] using h), fun h => by simpa [sput] using h6 (by simpa [did] using h), fun h => by simpa [sput] using h7 (by simpa [did] using h), fun h => by simpa [sput] using h8 (by simpa [did] using h), fun h => by simpa [sput] using h9 (by simpa [did] using h), fun h e => by simpa [sput] using (h10 (by simpa [did] using h) (by simpa [did] using e)).below below_one, fun h => by simpa [sput] using h11 (by simpa [did] using h), fun h => by simpa [sput] using h12 (by simpa [did] using h), fun h => by simpa [sput] using h13 (by simpa [did] using h), fun h => by simpa [sput] using h14 (by simpa [did] using h), fun h => by simpa [sput] using h17 (by simpa [did] using h), by simpa [sput, did] using x0, fun h => by have := x1 (by simpa [did] using h); simp [did, this], fun h => by simpa [sput] using x2 (by simpa [did] using h), fun h => by have := x3 (by simpa [did] using h); simp [did, this], fun h => by have := x4 (by simpa [did] using h); simp [did, this], fun h => by have := x5 (by simpa [did] using h); simp [did, this], fun h => by have := x6 (by simpa [did] using h); simp [did, this], fun h => by have := x7 (by simpa [did] using h); simp [did, this], fun h => by have := x8 (by simpa [did] using h); simp [did, this], fun h => by have := x9 (by simpa [did] using h); simp [did, this], fun _ => by have y14 := x9 (by simp [hdep]); simp [did, hdep, y14], fun h => by have := x11 (by simpa [did] using h); simp [did, this], by rw [hd] at hT; simpa [did, sput, hl] using hT.made hr⟩
        · have g0 := h0 (by simp [hdep])
          have hd12 : d 15 = true := by simp [hdep]
          rw [hd12, hd] at hT
          obtain ⟨g, v', w', ga, gb, gc⟩ := hT.app HOw.out HBl.out (Nat.le_refl _) HBl.out.size HLe.out
          refine opSteps_append _ _ _ rfl (by simp only [evS]; exact g0) (by simp only [evS]; exact ga) gb ?_
          exact ⟨fun h => by simpa [sput] using h0 (by simpa [did] using h), fun h => by simpa [sput] using h1 (by simpa [did] using h), fun h => by simpa [sput] using h2 (by simpa [did] using h), fun h => by simpa [sput] using h3 (by simpa [did] using h), fun h => by simpa [sput] using h4 (by simpa [did] using h), fun h => by simpa [sput] using h5 (by simpa [did] using h), fun h => by simpa [sput] using h6 (by simpa [did] using h), fun h => by simpa [sput] using h7 (by simpa [did] using h), fun h => by simpa [sput] using h8 (by simpa [did] using h), fun h => by simpa [sput] using h9 (by simpa [did] using h), fun h e => by simp [did] at e, fun h => by simpa [sput] using h11 (by simpa [did] using h), fun h => by simpa [sput] using h12 (by simpa [did] using h), fun h => by simpa [sput] using h13 (by simpa [did] using h), fun h => by simpa [sput] using h14 (by simpa [did] using h), fun h => by have := x0 (by simpa [did] using h); simp [hd] at this, fun _ => by simp [did], fun h => by have := x1 (by simpa [did] using h); simp [did, this], fun h => by simpa [sput] using x2 (by simpa [did] using h), fun h => by have := x3 (by simpa [did] using h); simp [did, this], fun h => by have := x4 (by simpa [did] using h); simp [did, this], fun h => by have := x5 (by simpa [did] using h); simp [did, this], fun h => by have := x6 (by simpa [did] using h); simp [did, this], fun h => by have := x7 (by simpa [did] using h); simp [did, this], fun h => by have := x8 (by simpa [did] using h); simp [did, this], fun h => by have := x9 (by simpa [did] using h); simp [did, this], fun h => by have := x10 (by simpa [did] using h); simp [did, this], fun _ => by have y15 := x10 (by simp [hdep]); simp [did, hdep, y15], by simpa [did, sput, hd12, ga] using gc⟩
        · unfold OpSteps
          simp [go_sem, evS]
          exact ⟨fun h => by simpa [sput] using h0 (by simpa [did] using h), fun h => by simpa [sput] using h1 (by simpa [did] using h), fun h => by simpa [sput] using h2 (by simpa [did] using h), fun h => by simpa [sput] using h3 (by simpa [did] using h), fun h => by simpa [sput] using h4 (by simpa [did] using h), fun h => by simpa [sput] using h5 (by simpa [did] using h), fun h => by simpa [sput] using h6 (by simpa [did] using h), fun h => by simpa [sput] using h7 (by simpa [did] using h), fun h => by simpa [sput] using h8 (by simpa [did] using h), fun h => by simpa [sput] using h9 (by simpa [did] using h), fun h e => by have h16 : d 16 = true := (by simp [hdep]); simp [did, h16] at e, fun h => by simpa [sput] using h11 (by simpa [did] using h), fun h => by simpa [sput] using h12 (by simpa [did] using h), fun h => by simpa [sput] using h13 (by simpa [did] using h), fun h => by simpa [sput] using h14 (by simpa [did] using h), fun _ => by simp [sput], fun _ => by simp [did, hdep], fun _ => by first | simp [did, hdep] | (have := x11 (by simp [hdep]); simp [did, this]), fun h => by simp [did] at h, fun h => by have := x3 (by simpa [did] using h); simp [did, this], fun h => by have := x4 (by simpa [did] using h); simp [did, this], fun h => by have := x5 (by simpa [did] using h); simp [did, this], fun h => by have := x6 (by simpa [did] using h); simp [did, this], fun h => by have := x7 (by simpa [did] using h); simp [did, this], fun h => by have := x8 (by simpa [did] using h); simp [did, this], fun h => by have := x9 (by simpa [did] using h); simp [did, this], fun h => by have := x10 (by simpa [did] using h); simp [did, this], fun h => by have := x11 (by simpa [did] using h); simp [did, this], by simpa [did, sput] using hT⟩
      intro d s W hJ hd
      obtain ⟨h0, h1, h2, h3, h4, h5, h6, h7, h8, h9, h10, h11, h12, h13, h14, h17, x0, x1, x2, x3, x4, x5, x6, x7, x8, x9, x10, x11, hT⟩ := hJ
      have hs7 : s 11 = s 35 := h17 (hd 17 (by decide))
      have hA := hT.2 (hd 16 (by decide))
      clear h0 h1 h2 h3 h4 h5 h6 h7 h8 h9 h10 h11 h12 h13 h14 h17 x0 x1 x2 x3 x4 x5 x6 x7 x8 x9 x10 x11 hT hd
      obtain ⟨r, hr, hown, hbl⟩ := hA
      have HR := Lib.hid (HQc.out r hr)
      have HOw2 := Lib.hid hown
      have HBl2 := Lib.hid hbl
      clear hr hown hbl
      simp [setAll, hs7]
      clear hs7
      generalize s 19 = s19
      generalize s 20 = s20
      generalize s 21 = s21
      generalize s 22 = s22
      generalize s 23 = s23
      generalize s 24 = s24
      generalize s 25 = s25
      generalize s 26 = s26
      generalize s 27 = s27
      generalize s 28 = s28
      generalize s 29 = s29
      generalize s 30 = s30
      generalize s 31 = s31
      generalize s 32 = s32
      generalize s 33 = s33
      generalize s 34 = s34
      generalize s 35 = s35 at *
      go_wp2_with fail
      go_roundw
      case rel => exact ⟨q + 1, L ++ [r], by omega, by go_num, Lib.hid ⟨by simp [HL.out.1], AxQ_all (R := (RTurnQ a b T R C X Y)) HL.out.1 HL.out.2 HR.out⟩, by rw [← HLf.out]; simpa [f64s] using HOw2.out, HBl2.out⟩
      case measure => simp [intOf]; omega
    · obtain rfl : q = C := by omega
      have hqc : ¬ (q : Int) < (q : Int) := by omega
      obtain ⟨B9, d9, rfl, hrow⟩ := own_row HOw0.out HL.out.1.symm
      have HRow := Lib.hid hrow
      clear hrow
      go_wp2_with fail
      go_ret
      exact ⟨B9, d9, L, rfl, HL.out.1, HL.out.2, HRow.out, below_nx (by rw [Hzt.out]; exact HB0.out) HBl.out⟩
end Go.Proofs.Ytodoibioedelgaa
