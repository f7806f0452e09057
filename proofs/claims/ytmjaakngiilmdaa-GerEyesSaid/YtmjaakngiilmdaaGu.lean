/-
Ger: each number of a matrix goes through what is handed in. Conditions: the matrix is right, its list the call's own, or it has no numbers.
-/
import Derived.Test.YtmjaakngiilmdaaGp
import Derived.Test.YtmjaakngiilmdaaZMvH
import Derived.Shelf.Abstract
set_option linter.unusedVariables false
set_option linter.unusedSimpArgs false
set_option linter.unnecessarySimpa false
namespace Go.Proofs.Ytmjaakngiilmdaa
open Go.RowKit
attribute [local go_sem ↓] Go.wp_at_zero Go.wp_at_succ

/-- The numbers of the first columns, and the next column's first, have become what was asked. -/
def Pcl (l : List Nat) (o R C L : Nat) (P : Nat → Nat → Nat → Prop) (j i : Nat) (l' : List Nat) : Prop :=
  l'.length = l.length ∧ (∀ a, a < R → ∀ b, b < C → if b < j ∨ (b = j ∧ a < i) then P a b (l'.getD (o + a + b * L) 0) else l'.getD (o + a + b * L) 0 = l.getD (o + a + b * L) 0) ∧ ∀ x, (∀ a, a < R → ∀ b, b < C → x ≠ o + a + b * L) → l'.getD x 0 = l.getD x 0
/-- All of them have. -/
def Imr (l : List Nat) (o R C L : Nat) (P : Nat → Nat → Nat → Prop) (l' : List Nat) : Prop :=
  l'.length = l.length ∧ (∀ a, a < R → ∀ b, b < C → P a b (l'.getD (o + a + b * L) 0)) ∧ ∀ x, (∀ a, a < R → ∀ b, b < C → x ≠ o + a + b * L) → l'.getD x 0 = l.getD x 0
theorem Pcl.zero (l : List Nat) (o R C L : Nat) (P : Nat → Nat → Nat → Prop) : Pcl l o R C L P 0 0 l := ⟨rfl, fun a _ b _ => by rw [if_neg (by omega)], fun _ _ => rfl⟩
theorem Pcl.next {l l' : List Nat} {o R C L : Nat} {P : Nat → Nat → Nat → Prop} {j : Nat} (h : Pcl l o R C L P j R l') : Pcl l o R C L P (j + 1) 0 l' :=
  ⟨h.1, fun a ha b hb => by
    have := h.2.1 a ha b hb
    by_cases e : b < j ∨ (b = j ∧ a < R)
    · rw [if_pos e] at this; rw [if_pos (by omega)]; exact this
    · rw [if_neg e] at this; rw [if_neg (by omega)]; exact this, h.2.2⟩
theorem Pcl.done {l l' : List Nat} {o R C L : Nat} {P : Nat → Nat → Nat → Prop} (h : Pcl l o R C L P C 0 l') : Imr l o R C L P l' :=
  ⟨h.1, fun a ha b hb => by have := h.2.1 a ha b hb; rw [if_pos (.inl hb)] at this; exact this, h.2.2⟩
theorem Pcl.was {l l' : List Nat} {o R C L : Nat} {P : Nat → Nat → Nat → Prop} {i j : Nat} (h : Pcl l o R C L P j i l') (hi : i < R) (hj : j < C) : l'.getD (o + i + j * L) 0 = l.getD (o + i + j * L) 0 := by
  have := h.2.1 i hi j hj
  rwa [if_neg (by omega)] at this
theorem Pcl.step {l l' : List Nat} {o R C L : Nat} {P : Nat → Nat → Nat → Prop} {i j r : Nat} (h : Pcl l o R C L P j i l') (hR : R ≤ L) (hi : i < R) (hj : j < C) (hP : o + i + j * L < l.length) (hr : P i j r) : Pcl l o R C L P j (i + 1) (l'.set (o + i + j * L) r) := by
  refine ⟨by rw [List.length_set]; exact h.1, fun a ha b hb => ?_, fun x hx => ?_⟩
  · by_cases e : a = i ∧ b = j
    · obtain ⟨rfl, rfl⟩ := e
      rw [getD_set_self (by rw [h.1]; exact hP), if_pos (by omega)]
      exact hr
    · rw [getD_set_ne _ (fun e2 => e (by
        have := spots_inj (L := L) (a := i) (b := j) (a' := a) (b' := b) (by omega) (by omega) (by omega)
        exact ⟨this.1.symm, this.2.symm⟩))]
      have := h.2.1 a ha b hb
      by_cases e1 : b < j ∨ (b = j ∧ a < i)
      · rw [if_pos e1] at this; rw [if_pos (by omega)]; exact this
      · rw [if_neg e1] at this; rw [if_neg (by omega)]; exact this
  · rw [getD_set_ne _ (fun e => hx i hi j hj e.symm), h.2.2 x hx]
/-- Each number has become what was asked. -/
def Eachm (I : World → Prop) (P : Nat → Nat → Nat → Prop) (g : Nat) (l : List Nat) (o R C L : Nat) (w : World) (e : Ending) (w' : World) : Prop :=
  e = .returned (.tuple #[]) ∧ ∃ l' : List Nat, Own w' g l' ∧ Imr l o R C L P l' ∧ I w' ∧ Chg [g] w w'
theorem gr_lt {o R C L n i j : Nat} (hr : R = 0 ∨ C = 0 ∨ o + (C - 1) * L + (R - 1) < n) (hi : i < R) (hj : j < C) : o + i + j * L < n := by
  have h1 : j * L ≤ (C - 1) * L := Nat.mul_le_mul_right _ (by omega)
  omega
/-- The place, in plain numbers. -/
theorem gr_facts {o i j L n : Nat} (h : o + i + j * L < n) (hn : n < 1048576) :
    ∃ u m P : Nat, o + i + j * L = P ∧ Hid (wrap64 ((o : Int) + (i : Int)) = (u : Int) ∧ wrap64 ((j : Int) * (L : Int)) = (m : Int) ∧ wrap64 ((u : Int) + (m : Int)) = (P : Int) ∧ P < n) := by
  refine ⟨o + i, j * L, _, rfl, Lib.hid ⟨?_, ?_, ?_, h⟩⟩
  · have e : (o : Int) + (i : Int) = ((o + i : Nat) : Int) := by simp
    rw [e]; exact wrap_id (by unfold I64; omega)
  · have e : (j : Int) * (L : Int) = ((j * L : Nat) : Int) := by simp
    rw [e]; exact wrap_id (by unfold I64; omega)
  · have e : ((o + i : Nat) : Int) + ((j * L : Nat) : Int) = ((o + i + j * L : Nat) : Int) := by simp
    rw [e]; exact wrap_id (by unfold I64; omega)

set_option maxRecDepth 100000 in
set_option maxHeartbeats 1000000 in
theorem greach_any (F : FuncId) (caps : Array Value) (I : World → Prop) (Rel : Nat → Nat → Nat → Prop) (g n c : Nat) (l : List Nat) (o R C L : Nat) (w : World)
    (hF : ∀ args W, (callFunc F args).run Try.prog W = .ok (.enter F args) W) (hO : Own w g l) (hl : l.length = n) (hn : n < 1048576) (hRL : R ≤ L) (hr : R = 0 ∨ C = 0 ∨ o + (C - 1) * L + (R - 1) < n) (hRb : R < 1048576) (hCb : C < 1048576) (hI : I w)
    (hIb : ∀ W W', I W → Below W.heap.size W W' → I W') (hIs : ∀ W i j v, i < R → j < C → Rel i j v → I W → I (W.setCell ⟨g, o + i + j * L, none⟩ (.float .f64 v)))
    (hC : ∀ W i j, i < R → j < C → I W → Calls Try.prog F (#[.int .i64 (i : Int), .int .i64 (j : Int), .float .f64 (l.getD (o + i + j * L) 0)] ++ caps) W fun e w' => ∃ r, e = .returned (.float .f64 r) ∧ Rel i j r ∧ Below W.heap.size W w') :
    Calls Try.prog 49 #[mat (some ⟨g, 0, none⟩) n c o R C L, .func (.func F) #[] caps] w (Eachm I Rel g l o R C L w) := by
  have HRn := Lib.hid (fun i j (hi : i < R) (hj : j < C) => gr_lt hr hi hj)
  have HF := Lib.hid hF
  have HO := Lib.hid hO
  have Hl := Lib.hid hl
  have HI0 := Lib.hid hI
  have HIb := Lib.hid hIb
  have HIs := Lib.hid hIs
  have HCa := Lib.hid hC
  have HRL := Lib.hid hRL
  clear hF hO hl hI hIb hIs hC hr hRL
  unfold mat at *
  go_enter Try.func49, Try.ntmps49
  have HZ := Lib.hid (Blk.new w 26 #[.slice (some ⟨g, 0, none⟩) n c, .int .i64 o, .int .i64 R, .int .i64 C, .int .i64 L])
  have hbl0 : Below w.heap.size w _ := (Below.refl w.heap.size w).alloc (Nat.le_refl _) (.cells #[.slice (some ⟨g, 0, none⟩) n c, .int .i64 o, .int .i64 R, .int .i64 C, .int .i64 L] 26)
  have HO1 := Lib.hid (HO.out.nxt hbl0)
  have HI1 := Lib.hid (HIb.out _ _ HI0.out hbl0)
  have HC1 := Lib.hid (Chg.of_below (G := [g]) hbl0)
  have Hgz := Lib.hid (show g < w.heap.size from HO.out.lt)
  clear hbl0
  go_wp2_with fail
  generalize hz : w.heap.size = z at *
  have Hz := Lib.hid hz
  clear hz
  go_loopw [9] (fun a wr => ∃ (b1 : Nat) (l1 : List Nat), b1 ≤ C ∧ a = .int .i64 b1 ∧ Hid (Pcl l o R C L Rel b1 0 l1 ∧ Own wr g l1 ∧ I wr ∧ Chg [g] w wr ∧ Blk wr z 26 #[.slice (some ⟨g, 0, none⟩) n c, .int .i64 o, .int .i64 R, .int .i64 C, .int .i64 L])) (fun a _ => C - (intOf a).toNat)
  case atStart => exact ⟨0, l, Nat.zero_le _, rfl, Lib.hid ⟨Pcl.zero _ _ _ _ _ _, HO1.out, HI1.out, HC1.out, HZ.out⟩⟩
  case round =>
    obtain ⟨b1, l1, hbC, rfl, HH⟩ := hrel
    obtain ⟨c0, c1, c2, c3, c4⟩ := cells5 HH.out.2.2.2.2
    by_cases hltb : b1 < C
    · have hbi : (b1 : Int) < (C : Int) := by omega
      have hb1 : b1 + 1 ≤ 1048576 := by omega
      go_wp2_with fail
      clear c0 c1 c2 c3 c4
      go_loopw [14] (fun a wr => ∃ (a1 : Nat) (l1 : List Nat), a1 ≤ R ∧ a = .int .i64 a1 ∧ Hid (Pcl l o R C L Rel b1 a1 l1 ∧ Own wr g l1 ∧ I wr ∧ Chg [g] w wr ∧ Blk wr z 26 #[.slice (some ⟨g, 0, none⟩) n c, .int .i64 o, .int .i64 R, .int .i64 C, .int .i64 L])) (fun a _ => R - (intOf a).toNat)
      case atStart => exact ⟨0, l1, Nat.zero_le _, rfl, HH⟩
      case round =>
        obtain ⟨a1, l1, haR, rfl, HH⟩ := hrel
        have HZ2 := Lib.hid HH.out.2.2.2.2
        obtain ⟨c0, c1, c2, c3, c4⟩ := cells5 HZ2.out
        by_cases hlta : a1 < R
        · have hP := HRn.out a1 b1 hlta hltb
          have HC0 := Lib.hid (fun W (h : I W) => HCa.out W a1 b1 hlta hltb h)
          have hyv := HH.out.1.was hlta hltb
          have hPl : o + a1 + b1 * L < l1.length := by rw [HH.out.1.1, Hl.out]; exact hP
          have hce := HH.out.2.1.get _ hPl
          have hfz := HH.out.2.1.frozen (o + a1 + b1 * L)
          rw [← getD_of_lt hPl, hyv] at hce
          have HDone := Lib.hid (show ∀ r, Rel a1 b1 r → ∀ W', Below wr.heap.size wr W' → Hid (Pcl l o R C L Rel b1 (a1 + 1) (l1.set (o + a1 + b1 * L) r) ∧ Own (W'.setCell ⟨g, o + a1 + b1 * L, none⟩ (.float .f64 r)) g (l1.set (o + a1 + b1 * L) r) ∧ I (W'.setCell ⟨g, o + a1 + b1 * L, none⟩ (.float .f64 r)) ∧ Chg [g] w (W'.setCell ⟨g, o + a1 + b1 * L, none⟩ (.float .f64 r)) ∧ Blk (W'.setCell ⟨g, o + a1 + b1 * L, none⟩ (.float .f64 r)) z 26 #[.slice (some ⟨g, 0, none⟩) n c, .int .i64 o, .int .i64 R, .int .i64 C, .int .i64 L]) from fun r hr W' hb => Lib.hid (by
            obtain ⟨e1, e3, e4, e5, e6⟩ := HH.out
            exact ⟨e1.step HRL.out hlta hltb (by rw [Hl.out]; exact hP) hr, (e3.nxt hb).set_ _ _ hPl, HIs.out _ _ _ _ hlta hltb hr (HIb.out _ _ e4 hb), (e5.nxt hb).set_in (by simp) _, (e6.nxt hb).other (by show z ≠ g; have := Hgz.out; omega) _⟩))
          obtain ⟨u, m, P, hPd, HW⟩ := gr_facts hP (by omega)
          obtain ⟨y, hy⟩ : ∃ y, l.getD (o + a1 + b1 * L) 0 = y := ⟨_, rfl⟩
          rw [hy] at HC0 hce
          rw [hPd] at hce hfz HDone
          have HI := Lib.hid HH.out.2.2.1
          have HCe := Lib.hid hce
          have HFz := Lib.hid hfz
          have hlt0 : g < wr.heap.size := block_lt hce
          have hai : (a1 : Int) < (R : Int) := by omega
          have ha1 : a1 + 1 ≤ 1048576 := by omega
          clear hyv hPl hy hPd hce hfz hP
          obtain ⟨w1', w2', w3', b2⟩ := HW.out
          go_wp2_with fail
          refine wp_region_inv [26, 27, 28, 29, 30, 31, 32, 33, 34, 35, 36, 37, 38] (fun d s W => (d 0 = true → s 26 = .pointer (some ⟨z, 0, none⟩)) ∧ (d 1 = true → s 27 = .slice (some ⟨g, 0, none⟩) n c) ∧ (d 2 = true → s 28 = .int .i64 (P : Int)) ∧ (d 3 = true → s 29 = .func (.func F) #[] caps) ∧ (d 4 = true → s 30 = .int .i64 (a1 : Int)) ∧ (d 5 = true → s 31 = .int .i64 (b1 : Int)) ∧ (d 6 = true → s 32 = .pointer (some ⟨z, 0, none⟩)) ∧ (d 7 = true → s 33 = .slice (some ⟨g, 0, none⟩) n c) ∧ (d 8 = true → s 34 = .int .i64 (P : Int)) ∧ (d 9 = true → s 35 = .pointer (some ⟨g, P, none⟩)) ∧ (d 10 = true → s 36 = .float .f64 y) ∧ (d 11 = true → ∃ r, s 37 = .float .f64 r ∧ Rel a1 b1 r) ∧ (d 12 = true → s 38 = .pointer (some ⟨g, P, none⟩)) ∧ (d 1 = true → d 0 = true) ∧ (d 7 = true → d 6 = true) ∧ (d 9 = true → d 6 = true ∧ d 7 = true ∧ d 8 = true) ∧ (d 10 = true → d 6 = true ∧ d 7 = true ∧ d 8 = true ∧ d 9 = true) ∧ (d 11 = true → d 3 = true ∧ d 4 = true ∧ d 5 = true ∧ d 6 = true ∧ d 7 = true ∧ d 8 = true ∧ d 9 = true ∧ d 10 = true) ∧ (d 12 = true → d 0 = true ∧ d 1 = true ∧ d 2 = true) ∧ (d 13 = true → d 0 = true ∧ d 1 = true ∧ d 2 = true ∧ d 3 = true ∧ d 4 = true ∧ d 5 = true ∧ d 6 = true ∧ d 7 = true ∧ d 8 = true ∧ d 9 = true ∧ d 10 = true ∧ d 11 = true ∧ d 12 = true) ∧ ((d 13 = false → Below wr.heap.size wr W) ∧ (d 13 = true → Stored g P (Rel a1 b1) wr W)))
            rfl (by kernel_rfl) ?_ ?_ ?_
          · exact ⟨by simp, by simp, by simp, by simp, by simp, by simp, by simp, by simp, by simp, by simp, by simp, by simp, by simp, by simp, by simp, by simp, by simp, by simp, by simp, by simp, ⟨fun _ => (Below.refl _ _).drew, fun h => by simp at h⟩⟩
          · refine ⟨?_, ?_, ?_, ?_, ?_, ?_, ?_, ?_, ?_, ?_, ?_, ?_, ?_, ?_, trivial⟩
            all_goals
              intro d s W hJ hfr hd hdep
              simp only [List.mem_cons, forall_eq_or_imp, List.not_mem_nil, false_implies, implies_true, and_true, Region.binds] at hdep
              have f1 := hfr 1 (by decide)
              have f2 := hfr 2 (by decide)
              have f4 := hfr 4 (by decide)
              have f5 := hfr 5 (by decide)
              have f6 := hfr 6 (by decide)
              simp at f1 f2 f4 f5 f6 hdep
              obtain ⟨h0, h1, h2, h3, h4, h5, h6, h7, h8, h9, h10, h11, h12, x0, x1, x2, x3, x4, x5, x6, hT⟩ := hJ
              have hT0 := hT
            · have hl : d 13 = false := by
                cases h : d 13
                · rfl
                · have := x6 h; simp [hd] at this
              replace hT := hT.1 hl
              unfold OpSteps
              simp [go_sem, evS, f2]
              exact ⟨fun _ => by simp [sput], fun h => by simpa [sput] using h1 (by simpa [did] using h), fun h => by simpa [sput] using h2 (by simpa [did] using h), fun h => by simpa [sput] using h3 (by simpa [did] using h), fun h => by simpa [sput] using h4 (by simpa [did] using h), fun h => by simpa [sput] using h5 (by simpa [did] using h), fun h => by simpa [sput] using h6 (by simpa [did] using h), fun h => by simpa [sput] using h7 (by simpa [did] using h), fun h => by simpa [sput] using h8 (by simpa [did] using h), fun h => by simpa [sput] using h9 (by simpa [did] using h), fun h => by simpa [sput] using h10 (by simpa [did] using h), fun h => by simpa [sput] using h11 (by simpa [did] using h), fun h => by simpa [sput] using h12 (by simpa [did] using h), fun h => by have := x0 (by simpa [did] using h); simp [did, this], fun h => by have := x1 (by simpa [did] using h); simp [did, this], fun h => by have := x2 (by simpa [did] using h); simp [did, this], fun h => by have := x3 (by simpa [did] using h); simp [did, this], fun h => by have := x4 (by simpa [did] using h); simp [did, this], fun h => by have := x5 (by simpa [did] using h); simp [did, this], fun h => by have := x6 (by simpa [did] using h); simp [did, this], ⟨fun _ => hT, fun h => by simp [did, hl] at h⟩⟩
            · have hl : d 13 = false := by
                cases h : d 13
                · rfl
                · have := x6 h; simp [hd] at this
              replace hT := hT.1 hl
              have g0 := h0 (by simp [hdep])
              unfold OpSteps
              obtain ⟨p0, p1, p2, p3, p4⟩ := cells5 (HZ2.out.below hT HZ2.out.lt)
              simp [go_sem, evS, g0, p0, p1, p2, p3, p4]
              exact ⟨fun h => by simpa [sput] using h0 (by simpa [did] using h), fun _ => by simp [sput], fun h => by simpa [sput] using h2 (by simpa [did] using h), fun h => by simpa [sput] using h3 (by simpa [did] using h), fun h => by simpa [sput] using h4 (by simpa [did] using h), fun h => by simpa [sput] using h5 (by simpa [did] using h), fun h => by simpa [sput] using h6 (by simpa [did] using h), fun h => by simpa [sput] using h7 (by simpa [did] using h), fun h => by simpa [sput] using h8 (by simpa [did] using h), fun h => by simpa [sput] using h9 (by simpa [did] using h), fun h => by simpa [sput] using h10 (by simpa [did] using h), fun h => by simpa [sput] using h11 (by simpa [did] using h), fun h => by simpa [sput] using h12 (by simpa [did] using h), fun _ => by simp [did, hdep], fun h => by have := x1 (by simpa [did] using h); simp [did, this], fun h => by have := x2 (by simpa [did] using h); simp [did, this], fun h => by have := x3 (by simpa [did] using h); simp [did, this], fun h => by have := x4 (by simpa [did] using h); simp [did, this], fun h => by have := x5 (by simpa [did] using h); simp [did, this], fun h => by have := x6 (by simpa [did] using h); simp [did, this], ⟨fun _ => hT, fun h => by simp [did, hl] at h⟩⟩
            · have hl : d 13 = false := by
                cases h : d 13
                · rfl
                · have := x6 h; simp [hd] at this
              replace hT := hT.1 hl
              unfold OpSteps
              simp [go_sem, evS, f6]
              exact ⟨fun h => by simpa [sput] using h0 (by simpa [did] using h), fun h => by simpa [sput] using h1 (by simpa [did] using h), fun _ => by simp [sput, w3'], fun h => by simpa [sput] using h3 (by simpa [did] using h), fun h => by simpa [sput] using h4 (by simpa [did] using h), fun h => by simpa [sput] using h5 (by simpa [did] using h), fun h => by simpa [sput] using h6 (by simpa [did] using h), fun h => by simpa [sput] using h7 (by simpa [did] using h), fun h => by simpa [sput] using h8 (by simpa [did] using h), fun h => by simpa [sput] using h9 (by simpa [did] using h), fun h => by simpa [sput] using h10 (by simpa [did] using h), fun h => by simpa [sput] using h11 (by simpa [did] using h), fun h => by simpa [sput] using h12 (by simpa [did] using h), fun h => by have := x0 (by simpa [did] using h); simp [did, this], fun h => by have := x1 (by simpa [did] using h); simp [did, this], fun h => by have := x2 (by simpa [did] using h); simp [did, this], fun h => by have := x3 (by simpa [did] using h); simp [did, this], fun h => by have := x4 (by simpa [did] using h); simp [did, this], fun h => by have := x5 (by simpa [did] using h); simp [did, this], fun h => by have := x6 (by simpa [did] using h); simp [did, this], ⟨fun _ => hT, fun h => by simp [did, hl] at h⟩⟩
            · have hl : d 13 = false := by
                cases h : d 13
                · rfl
                · have := x6 h; simp [hd] at this
              replace hT := hT.1 hl
              unfold OpSteps
              simp [go_sem, evS, f1]
              exact ⟨fun h => by simpa [sput] using h0 (by simpa [did] using h), fun h => by simpa [sput] using h1 (by simpa [did] using h), fun h => by simpa [sput] using h2 (by simpa [did] using h), fun _ => by simp [sput], fun h => by simpa [sput] using h4 (by simpa [did] using h), fun h => by simpa [sput] using h5 (by simpa [did] using h), fun h => by simpa [sput] using h6 (by simpa [did] using h), fun h => by simpa [sput] using h7 (by simpa [did] using h), fun h => by simpa [sput] using h8 (by simpa [did] using h), fun h => by simpa [sput] using h9 (by simpa [did] using h), fun h => by simpa [sput] using h10 (by simpa [did] using h), fun h => by simpa [sput] using h11 (by simpa [did] using h), fun h => by simpa [sput] using h12 (by simpa [did] using h), fun h => by have := x0 (by simpa [did] using h); simp [did, this], fun h => by have := x1 (by simpa [did] using h); simp [did, this], fun h => by have := x2 (by simpa [did] using h); simp [did, this], fun h => by have := x3 (by simpa [did] using h); simp [did, this], fun h => by have := x4 (by simpa [did] using h); simp [did, this], fun h => by have := x5 (by simpa [did] using h); simp [did, this], fun h => by have := x6 (by simpa [did] using h); simp [did, this], ⟨fun _ => hT, fun h => by simp [did, hl] at h⟩⟩
            · have hl : d 13 = false := by
                cases h : d 13
                · rfl
                · have := x6 h; simp [hd] at this
              replace hT := hT.1 hl
              unfold OpSteps
              simp [go_sem, evS, f5]
              exact ⟨fun h => by simpa [sput] using h0 (by simpa [did] using h), fun h => by simpa [sput] using h1 (by simpa [did] using h), fun h => by simpa [sput] using h2 (by simpa [did] using h), fun h => by simpa [sput] using h3 (by simpa [did] using h), fun _ => by simp [sput], fun h => by simpa [sput] using h5 (by simpa [did] using h), fun h => by simpa [sput] using h6 (by simpa [did] using h), fun h => by simpa [sput] using h7 (by simpa [did] using h), fun h => by simpa [sput] using h8 (by simpa [did] using h), fun h => by simpa [sput] using h9 (by simpa [did] using h), fun h => by simpa [sput] using h10 (by simpa [did] using h), fun h => by simpa [sput] using h11 (by simpa [did] using h), fun h => by simpa [sput] using h12 (by simpa [did] using h), fun h => by have := x0 (by simpa [did] using h); simp [did, this], fun h => by have := x1 (by simpa [did] using h); simp [did, this], fun h => by have := x2 (by simpa [did] using h); simp [did, this], fun h => by have := x3 (by simpa [did] using h); simp [did, this], fun h => by have := x4 (by simpa [did] using h); simp [did, this], fun h => by have := x5 (by simpa [did] using h); simp [did, this], fun h => by have := x6 (by simpa [did] using h); simp [did, this], ⟨fun _ => hT, fun h => by simp [did, hl] at h⟩⟩
            · have hl : d 13 = false := by
                cases h : d 13
                · rfl
                · have := x6 h; simp [hd] at this
              replace hT := hT.1 hl
              unfold OpSteps
              simp [go_sem, evS, f4]
              exact ⟨fun h => by simpa [sput] using h0 (by simpa [did] using h), fun h => by simpa [sput] using h1 (by simpa [did] using h), fun h => by simpa [sput] using h2 (by simpa [did] using h), fun h => by simpa [sput] using h3 (by simpa [did] using h), fun h => by simpa [sput] using h4 (by simpa [did] using h), fun _ => by simp [sput], fun h => by simpa [sput] using h6 (by simpa [did] using h), fun h => by simpa [sput] using h7 (by simpa [did] using h), fun h => by simpa [sput] using h8 (by simpa [did] using h), fun h => by simpa [sput] using h9 (by simpa [did] using h), fun h => by simpa [sput] using h10 (by simpa [did] using h), fun h => by simpa [sput] using h11 (by simpa [did] using h), fun h => by simpa [sput] using h12 (by simpa [did] using h), fun h => by have := x0 (by simpa [did] using h); simp [did, this], fun h => by have := x1 (by simpa [did] using h); simp [did, this], fun h => by have := x2 (by simpa [did] using h); simp [did, this], fun h => by have := x3 (by simpa [did] using h); simp [did, this], fun h => by have := x4 (by simpa [did] using h); simp [did, this], fun h => by have := x5 (by simpa [did] using h); simp [did, this], fun h => by have := x6 (by simpa [did] using h); simp [did, this], ⟨fun _ => hT, fun h => by simp [did, hl] at h⟩⟩
            · have hl : d 13 = false := by
                cases h : d 13
                · rfl
                · have := x6 h; simp [hd] at this
              replace hT := hT.1 hl
              unfold OpSteps
              simp [go_sem, evS, f2]
              exact ⟨fun h => by simpa [sput] using h0 (by simpa [did] using h), fun h => by simpa [sput] using h1 (by simpa [did] using h), fun h => by simpa [sput] using h2 (by simpa [did] using h), fun h => by simpa [sput] using h3 (by simpa [did] using h), fun h => by simpa [sput] using h4 (by simpa [did] using h), fun h => by simpa [sput] using h5 (by simpa [did] using h), fun _ => by simp [sput], fun h => by simpa [sput] using h7 (by simpa [did] using h), fun h => by simpa [sput] using h8 (by simpa [did] using h), fun h => by simpa [sput] using h9 (by simpa [did] using h), fun h => by simpa [sput] using h10 (by simpa [did] using h), fun h => by simpa [sput] using h11 (by simpa [did] using h), fun h => by simpa [sput] using h12 (by simpa [did] using h), fun h => by have := x0 (by simpa [did] using h); simp [did, this], fun h => by have := x1 (by simpa [did] using h); simp [did, this], fun h => by have := x2 (by simpa [did] using h); simp [did, this], fun h => by have := x3 (by simpa [did] using h); simp [did, this], fun h => by have := x4 (by simpa [did] using h); simp [did, this], fun h => by have := x5 (by simpa [did] using h); simp [did, this], fun h => by have := x6 (by simpa [did] using h); simp [did, this], ⟨fun _ => hT, fun h => by simp [did, hl] at h⟩⟩
            · have hl : d 13 = false := by
                cases h : d 13
                · rfl
                · have := x6 h; simp [hd] at this
              replace hT := hT.1 hl
              have g6 := h6 (by simp [hdep])
              unfold OpSteps
              obtain ⟨p0, p1, p2, p3, p4⟩ := cells5 (HZ2.out.below hT HZ2.out.lt)
              simp [go_sem, evS, g6, p0, p1, p2, p3, p4]
              exact ⟨fun h => by simpa [sput] using h0 (by simpa [did] using h), fun h => by simpa [sput] using h1 (by simpa [did] using h), fun h => by simpa [sput] using h2 (by simpa [did] using h), fun h => by simpa [sput] using h3 (by simpa [did] using h), fun h => by simpa [sput] using h4 (by simpa [did] using h), fun h => by simpa [sput] using h5 (by simpa [did] using h), fun h => by simpa [sput] using h6 (by simpa [did] using h), fun _ => by simp [sput], fun h => by simpa [sput] using h8 (by simpa [did] using h), fun h => by simpa [sput] using h9 (by simpa [did] using h), fun h => by simpa [sput] using h10 (by simpa [did] using h), fun h => by simpa [sput] using h11 (by simpa [did] using h), fun h => by simpa [sput] using h12 (by simpa [did] using h), fun h => by have := x0 (by simpa [did] using h); simp [did, this], fun _ => by simp [did, hdep], fun h => by have := x2 (by simpa [did] using h); simp [did, this], fun h => by have := x3 (by simpa [did] using h); simp [did, this], fun h => by have := x4 (by simpa [did] using h); simp [did, this], fun h => by have := x5 (by simpa [did] using h); simp [did, this], fun h => by have := x6 (by simpa [did] using h); simp [did, this], ⟨fun _ => hT, fun h => by simp [did, hl] at h⟩⟩
            · have hl : d 13 = false := by
                cases h : d 13
                · rfl
                · have := x6 h; simp [hd] at this
              replace hT := hT.1 hl
              unfold OpSteps
              simp [go_sem, evS, f6]
              exact ⟨fun h => by simpa [sput] using h0 (by simpa [did] using h), fun h => by simpa [sput] using h1 (by simpa [did] using h), fun h => by simpa [sput] using h2 (by simpa [did] using h), fun h => by simpa [sput] using h3 (by simpa [did] using h), fun h => by simpa [sput] using h4 (by simpa [did] using h), fun h => by simpa [sput] using h5 (by simpa [did] using h), fun h => by simpa [sput] using h6 (by simpa [did] using h), fun h => by simpa [sput] using h7 (by simpa [did] using h), fun _ => by simp [sput, w3'], fun h => by simpa [sput] using h9 (by simpa [did] using h), fun h => by simpa [sput] using h10 (by simpa [did] using h), fun h => by simpa [sput] using h11 (by simpa [did] using h), fun h => by simpa [sput] using h12 (by simpa [did] using h), fun h => by have := x0 (by simpa [did] using h); simp [did, this], fun h => by have := x1 (by simpa [did] using h); simp [did, this], fun h => by have := x2 (by simpa [did] using h); simp [did, this], fun h => by have := x3 (by simpa [did] using h); simp [did, this], fun h => by have := x4 (by simpa [did] using h); simp [did, this], fun h => by have := x5 (by simpa [did] using h); simp [did, this], fun h => by have := x6 (by simpa [did] using h); simp [did, this], ⟨fun _ => hT, fun h => by simp [did, hl] at h⟩⟩
            · have hl : d 13 = false := by
                cases h : d 13
                · rfl
                · have := x6 h; simp [hd] at this
              replace hT := hT.1 hl
              have g7 := h7 (by simp [hdep])
              have g8 := h8 (by simp [hdep])
              unfold OpSteps
              simp [go_sem, evS, g7, g8, b2]
              exact ⟨fun h => by simpa [sput] using h0 (by simpa [did] using h), fun h => by simpa [sput] using h1 (by simpa [did] using h), fun h => by simpa [sput] using h2 (by simpa [did] using h), fun h => by simpa [sput] using h3 (by simpa [did] using h), fun h => by simpa [sput] using h4 (by simpa [did] using h), fun h => by simpa [sput] using h5 (by simpa [did] using h), fun h => by simpa [sput] using h6 (by simpa [did] using h), fun h => by simpa [sput] using h7 (by simpa [did] using h), fun h => by simpa [sput] using h8 (by simpa [did] using h), fun _ => by simp [sput], fun h => by simpa [sput] using h10 (by simpa [did] using h), fun h => by simpa [sput] using h11 (by simpa [did] using h), fun h => by simpa [sput] using h12 (by simpa [did] using h), fun h => by have := x0 (by simpa [did] using h); simp [did, this], fun h => by have := x1 (by simpa [did] using h); simp [did, this], fun _ => by have y7 := x1 (by simp [hdep]); simp [did, hdep, y7], fun h => by have := x3 (by simpa [did] using h); simp [did, this], fun h => by have := x4 (by simpa [did] using h); simp [did, this], fun h => by have := x5 (by simpa [did] using h); simp [did, this], fun h => by have := x6 (by simpa [did] using h); simp [did, this], ⟨fun _ => hT, fun h => by simp [did, hl] at h⟩⟩
            · have hl : d 13 = false := by
                cases h : d 13
                · rfl
                · have := x6 h; simp [hd] at this
              replace hT := hT.1 hl
              have g9 := h9 (by simp [hdep])
              unfold OpSteps
              have pc := cell_below HCe.out hT
              simp [go_sem, evS, g9, pc]
              exact ⟨fun h => by simpa [sput] using h0 (by simpa [did] using h), fun h => by simpa [sput] using h1 (by simpa [did] using h), fun h => by simpa [sput] using h2 (by simpa [did] using h), fun h => by simpa [sput] using h3 (by simpa [did] using h), fun h => by simpa [sput] using h4 (by simpa [did] using h), fun h => by simpa [sput] using h5 (by simpa [did] using h), fun h => by simpa [sput] using h6 (by simpa [did] using h), fun h => by simpa [sput] using h7 (by simpa [did] using h), fun h => by simpa [sput] using h8 (by simpa [did] using h), fun h => by simpa [sput] using h9 (by simpa [did] using h), fun _ => by simp [sput], fun h => by simpa [sput] using h11 (by simpa [did] using h), fun h => by simpa [sput] using h12 (by simpa [did] using h), fun h => by have := x0 (by simpa [did] using h); simp [did, this], fun h => by have := x1 (by simpa [did] using h); simp [did, this], fun h => by have := x2 (by simpa [did] using h); simp [did, this], fun _ => by have y9 := x2 (by simp [hdep]); simp [did, hdep, y9], fun h => by have := x4 (by simpa [did] using h); simp [did, this], fun h => by have := x5 (by simpa [did] using h); simp [did, this], fun h => by have := x6 (by simpa [did] using h); simp [did, this], ⟨fun _ => hT, fun h => by simp [did, hl] at h⟩⟩
            · have hl : d 13 = false := by
                cases h : d 13
                · rfl
                · have := x6 h; simp [hd] at this
              replace hT := hT.1 hl
              have g3 := h3 (by simp [hdep])
              have g4 := h4 (by simp [hdep])
              have g5 := h5 (by simp [hdep])
              have g10 := h10 (by simp [hdep])
              unfold OpSteps
              simp [go_sem, evS, g3, g4, g5, g10, HF.out]
              refine (HC0.out W (HIb.out _ _ HI.out hT)).mono ?_
              rintro e W' ⟨r, rfl, hr, hb⟩
              refine ⟨_, rfl, ?_⟩
              exact ⟨fun h => by simpa [sput] using h0 (by simpa [did] using h), fun h => by simpa [sput] using h1 (by simpa [did] using h), fun h => by simpa [sput] using h2 (by simpa [did] using h), fun h => by simpa [sput] using h3 (by simpa [did] using h), fun h => by simpa [sput] using h4 (by simpa [did] using h), fun h => by simpa [sput] using h5 (by simpa [did] using h), fun h => by simpa [sput] using h6 (by simpa [did] using h), fun h => by simpa [sput] using h7 (by simpa [did] using h), fun h => by simpa [sput] using h8 (by simpa [did] using h), fun h => by simpa [sput] using h9 (by simpa [did] using h), fun h => by simpa [sput] using h10 (by simpa [did] using h), fun _ => ⟨r, by simp [sput], hr⟩, fun h => by simpa [sput] using h12 (by simpa [did] using h), fun h => by have := x0 (by simpa [did] using h); simp [did, this], fun h => by have := x1 (by simpa [did] using h); simp [did, this], fun h => by have := x2 (by simpa [did] using h); simp [did, this], fun h => by have := x3 (by simpa [did] using h); simp [did, this], fun _ => by have y10 := x3 (by simp [hdep]); simp [did, hdep, y10], fun h => by have := x5 (by simpa [did] using h); simp [did, this], fun h => by have := x6 (by simpa [did] using h); simp [did, this], ⟨fun _ => below_nx hT hb, fun h => by simp [did, hl] at h⟩⟩
            · have hl : d 13 = false := by
                cases h : d 13
                · rfl
                · have := x6 h; simp [hd] at this
              replace hT := hT.1 hl
              have g1 := h1 (by simp [hdep])
              have g2 := h2 (by simp [hdep])
              unfold OpSteps
              simp [go_sem, evS, g1, g2, b2]
              exact ⟨fun h => by simpa [sput] using h0 (by simpa [did] using h), fun h => by simpa [sput] using h1 (by simpa [did] using h), fun h => by simpa [sput] using h2 (by simpa [did] using h), fun h => by simpa [sput] using h3 (by simpa [did] using h), fun h => by simpa [sput] using h4 (by simpa [did] using h), fun h => by simpa [sput] using h5 (by simpa [did] using h), fun h => by simpa [sput] using h6 (by simpa [did] using h), fun h => by simpa [sput] using h7 (by simpa [did] using h), fun h => by simpa [sput] using h8 (by simpa [did] using h), fun h => by simpa [sput] using h9 (by simpa [did] using h), fun h => by simpa [sput] using h10 (by simpa [did] using h), fun h => by simpa [sput] using h11 (by simpa [did] using h), fun _ => by simp [sput], fun h => by have := x0 (by simpa [did] using h); simp [did, this], fun h => by have := x1 (by simpa [did] using h); simp [did, this], fun h => by have := x2 (by simpa [did] using h); simp [did, this], fun h => by have := x3 (by simpa [did] using h); simp [did, this], fun h => by have := x4 (by simpa [did] using h); simp [did, this], fun _ => by have y1 := x0 (by simp [hdep]); simp [did, hdep, y1], fun h => by have := x6 (by simpa [did] using h); simp [did, this], ⟨fun _ => hT, fun h => by simp [did, hl] at h⟩⟩
            · have g12 := h12 (by simp [hdep])
              have g11 := h11 (by simp [hdep])
              unfold OpSteps
              replace hT := hT.1 hd
              obtain ⟨r, gr, hr⟩ := g11
              have hfz := frz_below HFz.out hlt0 hT
              have hcl := cell_below HCe.out hT
              simp [go_sem, evS, g12, gr, hfz, hcl]
              exact ⟨fun h => by simpa [sput] using h0 (by simpa [did] using h), fun h => by simpa [sput] using h1 (by simpa [did] using h), fun h => by simpa [sput] using h2 (by simpa [did] using h), fun h => by simpa [sput] using h3 (by simpa [did] using h), fun h => by simpa [sput] using h4 (by simpa [did] using h), fun h => by simpa [sput] using h5 (by simpa [did] using h), fun h => by simpa [sput] using h6 (by simpa [did] using h), fun h => by simpa [sput] using h7 (by simpa [did] using h), fun h => by simpa [sput] using h8 (by simpa [did] using h), fun h => by simpa [sput] using h9 (by simpa [did] using h), fun h => by simpa [sput] using h10 (by simpa [did] using h), fun h => by simpa [sput] using h11 (by simpa [did] using h), fun h => by simpa [sput] using h12 (by simpa [did] using h), fun h => by have := x0 (by simpa [did] using h); simp [did, this], fun h => by have := x1 (by simpa [did] using h); simp [did, this], fun h => by have := x2 (by simpa [did] using h); simp [did, this], fun h => by have := x3 (by simpa [did] using h); simp [did, this], fun h => by have := x4 (by simpa [did] using h); simp [did, this], fun h => by have := x5 (by simpa [did] using h); simp [did, this], fun _ => by have y11 := x4 (by simp [hdep]); have y12 := x5 (by simp [hdep]); simp [did, hdep, y11, y12], ⟨fun h => by simp [did] at h, fun _ => ⟨W, r, hT, rfl, hr⟩⟩⟩
          intro d s W hJ hd
          obtain ⟨h0, h1, h2, h3, h4, h5, h6, h7, h8, h9, h10, h11, h12, x0, x1, x2, x3, x4, x5, x6, hT⟩ := hJ
          obtain ⟨W', r, hbw, rfl, hr⟩ := hT.2 (hd 13 (by decide))
          have HR := Lib.hid hr
          have HBw := Lib.hid hbw
          clear h0 h1 h2 h3 h4 h5 h6 h7 h8 h9 h10 h11 h12 x0 x1 x2 x3 x4 x5 x6 hT hd hbw hr
          simp [setAll]
          generalize s 26 = s26
          generalize s 27 = s27
          generalize s 28 = s28
          generalize s 29 = s29
          generalize s 30 = s30
          generalize s 31 = s31
          generalize s 32 = s32
          generalize s 33 = s33
          generalize s 34 = s34
          generalize s 35 = s35
          generalize s 36 = s36
          generalize s 37 = s37
          generalize s 38 = s38
          go_wp2_with fail
          go_roundw
          case rel => exact ⟨a1 + 1, l1.set P r, by omega, by go_num, HDone.out r HR.out W' HBw.out⟩
          case measure => simp [intOf]; omega
        · obtain rfl : a1 = R := by omega
          have hqc : ¬ (a1 : Int) < (a1 : Int) := by omega
          go_wp2_with fail
          go_roundw
          case rel => exact ⟨b1 + 1, l1, by omega, by go_num, Lib.hid ⟨HH.out.1.next, HH.out.2⟩⟩
          case measure => simp [intOf]; omega
    · obtain rfl : b1 = C := by omega
      have hqc : ¬ (b1 : Int) < (b1 : Int) := by omega
      go_wp2_with fail
      go_end0
      obtain ⟨e1, e3, e4, e5, e6⟩ := HH.out
      exact ⟨rfl, l1, e3, e1.done, e4, e5⟩
end Go.Proofs.Ytmjaakngiilmdaa
/-
Ger: what is handed in for each number; who meets. Conditions: as each says.
-/
set_option linter.unusedVariables false
set_option linter.unusedSimpArgs false
set_option linter.unnecessarySimpa false
namespace Go.Proofs.Ytmjaakngiilmdaa
open Go.RowKit
attribute [local go_sem ↓] Go.wp_at_zero Go.wp_at_succ

theorem gr_wds {l : List Nat} (h : Wds l) (k : Nat) : l.getD k 0 < 18446744073709551616 := by
  rcases Nat.lt_or_ge k l.length with h1 | h1
  · rw [getD_of_lt h1]; exact h.at_ k h1
  · rw [getD_of_le h1]; omega
theorem grat_one (b x0 n c : Nat) (o K i k v : Nat) (w : World) (hc : w.cell? ⟨b, x0 + (o + k * i), none⟩ = some (.float .f64 v)) (hn : n < 1048576) (hP : o + k * i < n) :
    Calls Try.prog 51 #[vec (some ⟨b, x0, none⟩) n c o K i, .int .i64 k] w fun e w' => e = .returned (.float .f64 v) ∧ Below w.heap.size w w' := by
  have HB := Lib.hid ((Below.refl w.heap.size w).alloc (Nat.le_refl _) (.cells #[.slice (some ⟨b, x0, none⟩) n c, .int .i64 o, .int .i64 K, .int .i64 i] 32))
  have hcell := cell_below hc HB.out
  obtain ⟨a, ha⟩ : ∃ a, k * i = a := ⟨_, rfl⟩
  obtain ⟨P, hPd⟩ : ∃ P, o + k * i = P := ⟨_, rfl⟩
  have e1 : ((k : Int) * (i : Int)) = (a : Int) := by rw [← ha]; simp
  have e2 : (o : Int) + (a : Int) = (P : Int) := by rw [← hPd, ha]; simp
  have HW := Lib.hid (wrap3 (o := o) (a := a) (P := P) (by rw [← hPd]; omega) (by rw [← ha, hPd]))
  rw [hPd] at hcell hP
  have b1 : (P : Int) < (n : Int) := by omega
  have b0 : (0 : Int) ≤ (P : Int) := by omega
  clear hc ha hPd hP
  obtain ⟨u1, u2, u3, u4⟩ := HW.out
  unfold vec
  go_enter Try.func51, Try.ntmps51
  go_wp2_with fail
  go_ret
  exact ⟨rfl, HB.out⟩

theorem grger_enters : Enters Try.prog 50 := enters_of Try.func50 (by kernel_rfl) rfl
theorem grshift_enters : Enters Try.prog 59 := enters_of Try.func59 (by kernel_rfl) rfl
theorem greye_enters : Enters Try.prog 65 := enters_of Try.func65 (by kernel_rfl) rfl

set_option maxRecDepth 100000 in
set_option maxHeartbeats 1000000 in
/-- What Ger does to a number. -/
theorem grger_one (a x y z i j pa px py bx x0 nx cx ox Kx ix by0 y0 ny cy oy Ky iy : Nat) (w : World) (ha : w.cell? ⟨pa, 0, none⟩ = some (.float .f64 a)) (hx : Blk w px 32 #[.slice (some ⟨bx, x0, none⟩) nx cx, .int .i64 ox, .int .i64 Kx, .int .i64 ix]) (hy : Blk w py 32 #[.slice (some ⟨by0, y0, none⟩) ny cy, .int .i64 oy, .int .i64 Ky, .int .i64 iy])
    (hcx : w.cell? ⟨bx, x0 + (ox + i * ix), none⟩ = some (.float .f64 x)) (hcy : w.cell? ⟨by0, y0 + (oy + j * iy), none⟩ = some (.float .f64 y)) (hPx : ox + i * ix < nx) (hPy : oy + j * iy < ny) (hnx : nx < 1048576) (hny : ny < 1048576) :
    Calls Try.prog 50 #[.int .i64 (i : Int), .int .i64 (j : Int), .float .f64 z, .pointer (some ⟨pa, 0, none⟩), .pointer (some ⟨py, 0, none⟩), .pointer (some ⟨px, 0, none⟩)] w fun e w' => ∃ t p r, e = .returned (.float .f64 r) ∧ Comes .mul a y t ∧ Comes .mul t x p ∧ Comes .add z p r ∧ Below w.heap.size w w' := by
  have HPx := Lib.hid (fun W (h : W.cell? ⟨bx, x0 + (ox + i * ix), none⟩ = some (.float .f64 x)) => grat_one bx x0 nx cx ox Kx ix i x W h hnx hPx)
  have HPy := Lib.hid (fun W (h : W.cell? ⟨by0, y0 + (oy + j * iy), none⟩ = some (.float .f64 y)) => grat_one by0 y0 ny cy oy Ky iy j y W h hny hPy)
  unfold vec at HPx HPy
  have HA := Lib.hid ha
  have HX := Lib.hid hx
  have HY := Lib.hid hy
  have HCx := Lib.hid hcx
  have HCy := Lib.hid hcy
  clear ha hx hy hcx hcy hPx hPy hnx hny
  go_enter Try.func50, Try.ntmps50
  go_wp2_with fail
  refine wp_region_inv [11, 12, 13, 14, 15, 10] (fun d s W => (d 0 = true → s 11 = .float .f64 a) ∧ (d 1 = true → s 12 = .agg #[.slice (some ⟨by0, y0, none⟩) ny cy, .int .i64 (oy : Int), .int .i64 (Ky : Int), .int .i64 (iy : Int)]) ∧ (d 2 = true → s 13 = .int .i64 (j : Int)) ∧ (d 3 = true → s 14 = .float .f64 y) ∧ (d 4 = true → ∃ t, s 15 = .float .f64 t ∧ Comes .mul a y t) ∧ (d 5 = true → ∃ t, s 10 = .float .f64 t ∧ Comes .mul a y t) ∧ Below w.heap.size w W)
    rfl (by kernel_rfl) ?_ ?_ ?_
  · exact ⟨by simp, by simp, by simp, by simp, by simp, by simp, (Below.refl _ _).drew⟩
  · refine ⟨?_, ?_, ?_, ?_, ?_, ?_, trivial⟩
    all_goals
      intro d s W hJ hfr hd hdep
      simp only [List.mem_cons, forall_eq_or_imp, List.not_mem_nil, false_implies, implies_true, and_true, Region.binds] at hdep
      have f1 := hfr 1 (by decide)
      have f3 := hfr 3 (by decide)
      have f4 := hfr 4 (by decide)
      simp at f1 f3 f4 hdep
      obtain ⟨h0, h1, h2, h3, h4, h5, hT⟩ := hJ
    · unfold OpSteps
      have pc := cell_below HA.out hT
      simp [go_sem, evS, f3, pc]
      exact ⟨fun _ => by simp [sput], fun h => by simpa [sput] using h1 (by simpa [did] using h), fun h => by simpa [sput] using h2 (by simpa [did] using h), fun h => by simpa [sput] using h3 (by simpa [did] using h), fun h => by simpa [sput] using h4 (by simpa [did] using h), fun h => by simpa [sput] using h5 (by simpa [did] using h), hT⟩
    · unfold OpSteps
      obtain ⟨p0, p1, p2, p3⟩ := cells4w (HY.out.below hT HY.out.lt)
      simp [go_sem, evS, f4, p0, p1, p2, p3]
      exact ⟨fun h => by simpa [sput] using h0 (by simpa [did] using h), fun _ => by simp [sput], fun h => by simpa [sput] using h2 (by simpa [did] using h), fun h => by simpa [sput] using h3 (by simpa [did] using h), fun h => by simpa [sput] using h4 (by simpa [did] using h), fun h => by simpa [sput] using h5 (by simpa [did] using h), hT⟩
    · unfold OpSteps
      simp [go_sem, evS, f1]
      exact ⟨fun h => by simpa [sput] using h0 (by simpa [did] using h), fun h => by simpa [sput] using h1 (by simpa [did] using h), fun _ => by simp [sput], fun h => by simpa [sput] using h3 (by simpa [did] using h), fun h => by simpa [sput] using h4 (by simpa [did] using h), fun h => by simpa [sput] using h5 (by simpa [did] using h), hT⟩
    · have g1 := h1 (by simp [hdep])
      have g2 := h2 (by simp [hdep])
      unfold OpSteps
      simp [go_sem, evS, g1, g2]
      refine (HPy.out W (cell_below HCy.out hT)).mono ?_
      rintro e W' ⟨rfl, hb⟩
      refine ⟨_, rfl, ?_⟩
      exact ⟨fun h => by simpa [sput] using h0 (by simpa [did] using h), fun h => by simpa [sput] using h1 (by simpa [did] using h), fun h => by simpa [sput] using h2 (by simpa [did] using h), fun _ => by simp [sput], fun h => by simpa [sput] using h4 (by simpa [did] using h), fun h => by simpa [sput] using h5 (by simpa [did] using h), below_nx hT hb⟩
    · have g0 := h0 (by simp [hdep])
      have g3 := h3 (by simp [hdep])
      unfold OpSteps
      simp [go_sem, evS, g0, g3]
      exact ⟨fun h => by simpa [sput] using h0 (by simpa [did] using h), fun h => by simpa [sput] using h1 (by simpa [did] using h), fun h => by simpa [sput] using h2 (by simpa [did] using h), fun h => by simpa [sput] using h3 (by simpa [did] using h), fun _ => ⟨fres .mul W a y, by simp [sput], fres_comes _ _ _ _⟩, fun h => by simpa [sput] using h5 (by simpa [did] using h), below_drewN hT _⟩
    · have g4 := h4 (by simp [hdep])
      unfold OpSteps
      obtain ⟨t, gt, ht⟩ := g4
      simp [go_sem, evS, gt]
      exact ⟨fun h => by simpa [sput] using h0 (by simpa [did] using h), fun h => by simpa [sput] using h1 (by simpa [did] using h), fun h => by simpa [sput] using h2 (by simpa [did] using h), fun h => by simpa [sput] using h3 (by simpa [did] using h), fun h => by simpa [sput] using h4 (by simpa [did] using h), fun _ => ⟨t, by simp [sput], ht⟩, hT⟩
  intro d s W hJ hd
  obtain ⟨h0, h1, h2, h3, h4, h5, hT⟩ := hJ
  obtain ⟨t, hs, ht⟩ := h5 (hd 5 (by decide))
  have HT := Lib.hid ht
  have HBe := Lib.hid hT
  clear h0 h1 h2 h3 h4 h5 hT hd ht
  simp [setAll, hs]
  clear hs
  generalize s 11 = s11
  generalize s 12 = s12
  generalize s 13 = s13
  generalize s 14 = s14
  generalize s 15 = s15
  obtain ⟨c0, c1, c2, c3⟩ := cells4w (HX.out.below HBe.out HX.out.lt)
  go_wp2_with fail
  refine (HPx.out _ (cell_below HCx.out HBe.out)).mono ?_
  rintro e w2 ⟨rfl, hb⟩
  have HB2 := Lib.hid (below_nx HBe.out hb)
  clear hb c0 c1 c2 c3
  go_wp2_with fail
  go_ret
  exact ⟨_, _, _, rfl, HT.out, fres_comes _ _ _ _, fres_comes _ _ _ _, below_drewN HB2.out _⟩

/-- An exponent that counts. -/
def bndI (k : Int) : Int := if k < -1073741824 then -1073741824 else if 1073741824 < k then 1073741824 else k
theorem bndI_in (k : Int) : -1073741824 ≤ bndI k ∧ bndI k ≤ 1073741824 := by unfold bndI; split <;> (try split) <;> omega
theorem grbounded_any (k : Int) (w : World) : Calls Try.prog 61 #[.int .i64 k] w fun e w' => e = .returned (.int .i64 (bndI k)) ∧ w = w' := by
  have e1 : bndI k = min (max k (-1073741824)) 1073741824 := by unfold bndI; split <;> (try split) <;> omega
  rw [e1]
  clear e1
  go_enter Try.func61, Try.ntmps61
  go_wp2_with fail
  all_goals (go_ret; exact ⟨congrArg (fun z => Ending.returned (Value.int IntKind.i64 z)) (by omega), rfl⟩)

theorem greye_one (i j z : Nat) (w : World) : Calls Try.prog 65 #[.int .i64 (i : Int), .int .i64 (j : Int), .float .f64 z] w fun e w' => ∃ r, e = .returned (.float .f64 r) ∧ (r = if i = j then 4607182418800017408 else 0) ∧ Below w.heap.size w w' := by
  by_cases h : i = j
  · subst h
    have e : ((i : Int) == (i : Int)) = true := by simp
    go_enter Try.func65, Try.ntmps65
    go_wp2_with fail
    go_ret
    exact ⟨_, rfl, by simp, Below.refl _ _⟩
  · have e : (i == j) = false := by simp [h]
    have e2 : ((i : Int) == (j : Int)) = false := by simp; omega
    have e3 : ¬ (i : Int) = (j : Int) := by omega
    go_enter Try.func65, Try.ntmps65
    go_wp2_with fail
    go_ret
    exact ⟨_, rfl, by simp [h], Below.refl _ _⟩

theorem grmeets_any (A : Option Addr) (n c : Nat) (off k inc : Int) (A' : Option Addr) (n' c' : Nat) (off' r' k' ld' : Int) (b : Bool) (w : World)
    (hM : ∀ W, Below w.heap.size w W → Calls Try.prog 71 #[mat A n c off 1 k inc, mat A' n' c' off' r' k' ld'] W fun e w' => e = .returned (.bool b) ∧ Below W.heap.size W w') :
    Calls Try.prog 48 #[vec A n c off k inc, mat A' n' c' off' r' k' ld'] w fun e w' => e = .returned (.bool b) ∧ Below w.heap.size w w' := by
  have HM := Lib.hid hM
  clear hM
  unfold vec mat at *
  go_enter Try.func48, Try.ntmps48
  have HB := Lib.hid (((Below.refl w.heap.size w).alloc (Nat.le_refl _) (.cells #[.slice A n c, .int .i64 off, .int .i64 k, .int .i64 inc] 32)).alloc (by simp) (.cells #[.slice A' n' c', .int .i64 off', .int .i64 r', .int .i64 k', .int .i64 ld'] 26))
  have HX := Lib.hid ((Blk.new w 32 #[.slice A n c, .int .i64 off, .int .i64 k, .int .i64 inc]).alloc (.cells #[.slice A' n' c', .int .i64 off', .int .i64 r', .int .i64 k', .int .i64 ld'] 26))
  have HY := Lib.hid (Blk.new_ (w.alloc (.cells #[.slice A n c, .int .i64 off, .int .i64 k, .int .i64 inc] 32)) 26 #[.slice A' n' c', .int .i64 off', .int .i64 r', .int .i64 k', .int .i64 ld'] (w.heap.size + 1) (by simp))
  obtain ⟨c0, c1, c2, c3⟩ := cells4w HX.out
  obtain ⟨d0, d1, d2, d3, d4⟩ := cells5 HY.out
  go_wp2_with fail
  refine (HM.out _ HB.out).mono ?_
  rintro e w2 ⟨rfl, hb⟩
  have HB2 := Lib.hid (below_nx HB.out hb)
  clear hb c0 c1 c2 c3 d0 d1 d2 d3 d4
  go_wp2_with fail
  go_ret
  exact ⟨rfl, HB2.out⟩

/-- The exponent that counts for a number. -/
def shfE (kr kc : Int) : Int := bndI (bndI kr + bndI kc)
set_option maxRecDepth 100000 in
set_option maxHeartbeats 1000000 in
/-- What Shift does to a number. -/
theorem grshift_one (y i j : Nat) (kr kc : Int) (pr br r0 nr cr pc bc q0 nc cc : Nat) (w : World) (hkr : w.cell? ⟨pr, 0, none⟩ = some (.slice (some ⟨br, r0, none⟩) nr cr)) (hkc : w.cell? ⟨pc, 0, none⟩ = some (.slice (some ⟨bc, q0, none⟩) nc cc))
    (hcr : w.cell? ⟨br, r0 + i, none⟩ = some (.int .i64 kr)) (hcc : w.cell? ⟨bc, q0 + j, none⟩ = some (.int .i64 kc)) (b1 : i < nr) (b2 : j < nc) (hy : y < 18446744073709551616) :
    Calls Try.prog 59 #[.int .i64 (i : Int), .int .i64 (j : Int), .float .f64 y, .pointer (some ⟨pr, 0, none⟩), .pointer (some ⟨pc, 0, none⟩)] w fun e w' => e = .returned (.float .f64 (Fl.scale y (shfE kr kc))) ∧ Below w.heap.size w w' := by
  unfold shfE
  have hq1 := bndI_in kr
  have hq2 := bndI_in kc
  have HBd := Lib.hid (fun (k z : Int) (h : bndI k = z) W => show Calls Try.prog 61 #[.int .i64 k] W fun e w' => e = .returned (.int .i64 z) ∧ W = w' from by rw [← h]; exact grbounded_any k W)
  obtain ⟨zr, hzr⟩ : ∃ zr, bndI kr = zr := ⟨_, rfl⟩
  obtain ⟨zc, hzc⟩ : ∃ zc, bndI kc = zc := ⟨_, rfl⟩
  rw [hzr] at hq1
  rw [hzc] at hq2
  rw [hzr, hzc]
  obtain ⟨zs, hzs⟩ : ∃ zs, zr + zc = zs := ⟨_, rfl⟩
  have wz2 : IntKind.i64.wrap (zr + zc) = zs := by rw [hzs]; exact wrapi (by omega) (by omega)
  have wz : wrap64 (zr + zc) = zs := by rw [hzs]; exact wrap_id (by unfold I64; omega)
  rw [hzs]
  obtain ⟨zf, hzf⟩ : ∃ zf, bndI zs = zf := ⟨_, rfl⟩
  rw [hzf]
  have hzr := Lib.hid hzr
  have hzc := Lib.hid hzc
  have hzf := Lib.hid hzf
  have HSc := Lib.hid (fun W => scale_any y zf W hy)
  have HKr := Lib.hid hkr
  have HKc := Lib.hid hkc
  have HCr := Lib.hid hcr
  have HCc := Lib.hid hcc
  clear hq1 hq2 hkr hkc hcr hcc hy hzs
  go_enter Try.func59, Try.ntmps59
  go_wp2_with fail
  refine wp_region_inv [9, 10, 11, 12, 13, 14, 15, 16, 17, 18, 19, 20, 21, 22, 8] (fun d s W => (d 0 = true → s 9 = .float .f64 y) ∧ (d 1 = true → s 10 = .slice (some ⟨br, r0, none⟩) nr cr) ∧ (d 2 = true → s 11 = .int .i64 (i : Int)) ∧ (d 3 = true → s 12 = .pointer (some ⟨br, r0 + i, none⟩)) ∧ (d 4 = true → s 13 = .int .i64 kr) ∧ (d 5 = true → s 14 = .int .i64 zr) ∧ (d 6 = true → s 15 = .slice (some ⟨bc, q0, none⟩) nc cc) ∧ (d 7 = true → s 16 = .int .i64 (j : Int)) ∧ (d 8 = true → s 17 = .pointer (some ⟨bc, q0 + j, none⟩)) ∧ (d 9 = true → s 18 = .int .i64 kc) ∧ (d 10 = true → s 19 = .int .i64 zc) ∧ (d 11 = true → s 20 = .int .i64 zs) ∧ (d 12 = true → s 21 = .int .i64 zf) ∧ (d 13 = true → s 22 = .float .f64 (Fl.scale y zf)) ∧ (d 14 = true → s 8 = .float .f64 (Fl.scale y zf)) ∧ Below w.heap.size w W)
    rfl (by kernel_rfl) ?_ ?_ ?_
  · exact ⟨by simp, by simp, by simp, by simp, by simp, by simp, by simp, by simp, by simp, by simp, by simp, by simp, by simp, by simp, by simp, (Below.refl _ _).drew⟩
  · refine ⟨?_, ?_, ?_, ?_, ?_, ?_, ?_, ?_, ?_, ?_, ?_, ?_, ?_, ?_, ?_, trivial⟩
    all_goals
      intro d s W hJ hfr hd hdep
      simp only [List.mem_cons, forall_eq_or_imp, List.not_mem_nil, false_implies, implies_true, and_true, Region.binds] at hdep
      have f0 := hfr 0 (by decide)
      have f1 := hfr 1 (by decide)
      have f2 := hfr 2 (by decide)
      have f3 := hfr 3 (by decide)
      have f4 := hfr 4 (by decide)
      simp at f0 f1 f2 f3 f4 hdep
      obtain ⟨h0, h1, h2, h3, h4, h5, h6, h7, h8, h9, h10, h11, h12, h13, h14, hT⟩ := hJ
    · unfold OpSteps
      simp [go_sem, evS, f2]
      exact ⟨fun _ => by simp [sput], fun h => by simpa [sput] using h1 (by simpa [did] using h), fun h => by simpa [sput] using h2 (by simpa [did] using h), fun h => by simpa [sput] using h3 (by simpa [did] using h), fun h => by simpa [sput] using h4 (by simpa [did] using h), fun h => by simpa [sput] using h5 (by simpa [did] using h), fun h => by simpa [sput] using h6 (by simpa [did] using h), fun h => by simpa [sput] using h7 (by simpa [did] using h), fun h => by simpa [sput] using h8 (by simpa [did] using h), fun h => by simpa [sput] using h9 (by simpa [did] using h), fun h => by simpa [sput] using h10 (by simpa [did] using h), fun h => by simpa [sput] using h11 (by simpa [did] using h), fun h => by simpa [sput] using h12 (by simpa [did] using h), fun h => by simpa [sput] using h13 (by simpa [did] using h), fun h => by simpa [sput] using h14 (by simpa [did] using h), hT⟩
    · unfold OpSteps
      have pc := cell_below HKr.out hT
      simp [go_sem, evS, f3, pc]
      exact ⟨fun h => by simpa [sput] using h0 (by simpa [did] using h), fun _ => by simp [sput], fun h => by simpa [sput] using h2 (by simpa [did] using h), fun h => by simpa [sput] using h3 (by simpa [did] using h), fun h => by simpa [sput] using h4 (by simpa [did] using h), fun h => by simpa [sput] using h5 (by simpa [did] using h), fun h => by simpa [sput] using h6 (by simpa [did] using h), fun h => by simpa [sput] using h7 (by simpa [did] using h), fun h => by simpa [sput] using h8 (by simpa [did] using h), fun h => by simpa [sput] using h9 (by simpa [did] using h), fun h => by simpa [sput] using h10 (by simpa [did] using h), fun h => by simpa [sput] using h11 (by simpa [did] using h), fun h => by simpa [sput] using h12 (by simpa [did] using h), fun h => by simpa [sput] using h13 (by simpa [did] using h), fun h => by simpa [sput] using h14 (by simpa [did] using h), hT⟩
    · unfold OpSteps
      simp [go_sem, evS, f0]
      exact ⟨fun h => by simpa [sput] using h0 (by simpa [did] using h), fun h => by simpa [sput] using h1 (by simpa [did] using h), fun _ => by simp [sput], fun h => by simpa [sput] using h3 (by simpa [did] using h), fun h => by simpa [sput] using h4 (by simpa [did] using h), fun h => by simpa [sput] using h5 (by simpa [did] using h), fun h => by simpa [sput] using h6 (by simpa [did] using h), fun h => by simpa [sput] using h7 (by simpa [did] using h), fun h => by simpa [sput] using h8 (by simpa [did] using h), fun h => by simpa [sput] using h9 (by simpa [did] using h), fun h => by simpa [sput] using h10 (by simpa [did] using h), fun h => by simpa [sput] using h11 (by simpa [did] using h), fun h => by simpa [sput] using h12 (by simpa [did] using h), fun h => by simpa [sput] using h13 (by simpa [did] using h), fun h => by simpa [sput] using h14 (by simpa [did] using h), hT⟩
    · have g1 := h1 (by simp [hdep])
      have g2 := h2 (by simp [hdep])
      unfold OpSteps
      simp [go_sem, evS, g1, g2, b1, b2]
      exact ⟨fun h => by simpa [sput] using h0 (by simpa [did] using h), fun h => by simpa [sput] using h1 (by simpa [did] using h), fun h => by simpa [sput] using h2 (by simpa [did] using h), fun _ => by simp [sput], fun h => by simpa [sput] using h4 (by simpa [did] using h), fun h => by simpa [sput] using h5 (by simpa [did] using h), fun h => by simpa [sput] using h6 (by simpa [did] using h), fun h => by simpa [sput] using h7 (by simpa [did] using h), fun h => by simpa [sput] using h8 (by simpa [did] using h), fun h => by simpa [sput] using h9 (by simpa [did] using h), fun h => by simpa [sput] using h10 (by simpa [did] using h), fun h => by simpa [sput] using h11 (by simpa [did] using h), fun h => by simpa [sput] using h12 (by simpa [did] using h), fun h => by simpa [sput] using h13 (by simpa [did] using h), fun h => by simpa [sput] using h14 (by simpa [did] using h), hT⟩
    · have g3 := h3 (by simp [hdep])
      unfold OpSteps
      have pc := cell_below HCr.out hT
      simp [go_sem, evS, g3, pc]
      exact ⟨fun h => by simpa [sput] using h0 (by simpa [did] using h), fun h => by simpa [sput] using h1 (by simpa [did] using h), fun h => by simpa [sput] using h2 (by simpa [did] using h), fun h => by simpa [sput] using h3 (by simpa [did] using h), fun _ => by simp [sput], fun h => by simpa [sput] using h5 (by simpa [did] using h), fun h => by simpa [sput] using h6 (by simpa [did] using h), fun h => by simpa [sput] using h7 (by simpa [did] using h), fun h => by simpa [sput] using h8 (by simpa [did] using h), fun h => by simpa [sput] using h9 (by simpa [did] using h), fun h => by simpa [sput] using h10 (by simpa [did] using h), fun h => by simpa [sput] using h11 (by simpa [did] using h), fun h => by simpa [sput] using h12 (by simpa [did] using h), fun h => by simpa [sput] using h13 (by simpa [did] using h), fun h => by simpa [sput] using h14 (by simpa [did] using h), hT⟩
    · have g4 := h4 (by simp [hdep])
      unfold OpSteps
      simp [go_sem, evS, g4]
      refine (HBd.out kr zr hzr.out W).mono ?_
      rintro e W' ⟨rfl, rfl⟩
      refine ⟨_, rfl, ?_⟩
      exact ⟨fun h => by simpa [sput] using h0 (by simpa [did] using h), fun h => by simpa [sput] using h1 (by simpa [did] using h), fun h => by simpa [sput] using h2 (by simpa [did] using h), fun h => by simpa [sput] using h3 (by simpa [did] using h), fun h => by simpa [sput] using h4 (by simpa [did] using h), fun _ => by simp [sput], fun h => by simpa [sput] using h6 (by simpa [did] using h), fun h => by simpa [sput] using h7 (by simpa [did] using h), fun h => by simpa [sput] using h8 (by simpa [did] using h), fun h => by simpa [sput] using h9 (by simpa [did] using h), fun h => by simpa [sput] using h10 (by simpa [did] using h), fun h => by simpa [sput] using h11 (by simpa [did] using h), fun h => by simpa [sput] using h12 (by simpa [did] using h), fun h => by simpa [sput] using h13 (by simpa [did] using h), fun h => by simpa [sput] using h14 (by simpa [did] using h), hT⟩
    · unfold OpSteps
      have pc := cell_below HKc.out hT
      simp [go_sem, evS, f4, pc]
      exact ⟨fun h => by simpa [sput] using h0 (by simpa [did] using h), fun h => by simpa [sput] using h1 (by simpa [did] using h), fun h => by simpa [sput] using h2 (by simpa [did] using h), fun h => by simpa [sput] using h3 (by simpa [did] using h), fun h => by simpa [sput] using h4 (by simpa [did] using h), fun h => by simpa [sput] using h5 (by simpa [did] using h), fun _ => by simp [sput], fun h => by simpa [sput] using h7 (by simpa [did] using h), fun h => by simpa [sput] using h8 (by simpa [did] using h), fun h => by simpa [sput] using h9 (by simpa [did] using h), fun h => by simpa [sput] using h10 (by simpa [did] using h), fun h => by simpa [sput] using h11 (by simpa [did] using h), fun h => by simpa [sput] using h12 (by simpa [did] using h), fun h => by simpa [sput] using h13 (by simpa [did] using h), fun h => by simpa [sput] using h14 (by simpa [did] using h), hT⟩
    · unfold OpSteps
      simp [go_sem, evS, f1]
      exact ⟨fun h => by simpa [sput] using h0 (by simpa [did] using h), fun h => by simpa [sput] using h1 (by simpa [did] using h), fun h => by simpa [sput] using h2 (by simpa [did] using h), fun h => by simpa [sput] using h3 (by simpa [did] using h), fun h => by simpa [sput] using h4 (by simpa [did] using h), fun h => by simpa [sput] using h5 (by simpa [did] using h), fun h => by simpa [sput] using h6 (by simpa [did] using h), fun _ => by simp [sput], fun h => by simpa [sput] using h8 (by simpa [did] using h), fun h => by simpa [sput] using h9 (by simpa [did] using h), fun h => by simpa [sput] using h10 (by simpa [did] using h), fun h => by simpa [sput] using h11 (by simpa [did] using h), fun h => by simpa [sput] using h12 (by simpa [did] using h), fun h => by simpa [sput] using h13 (by simpa [did] using h), fun h => by simpa [sput] using h14 (by simpa [did] using h), hT⟩
    · have g6 := h6 (by simp [hdep])
      have g7 := h7 (by simp [hdep])
      unfold OpSteps
      simp [go_sem, evS, g6, g7, b1, b2]
      exact ⟨fun h => by simpa [sput] using h0 (by simpa [did] using h), fun h => by simpa [sput] using h1 (by simpa [did] using h), fun h => by simpa [sput] using h2 (by simpa [did] using h), fun h => by simpa [sput] using h3 (by simpa [did] using h), fun h => by simpa [sput] using h4 (by simpa [did] using h), fun h => by simpa [sput] using h5 (by simpa [did] using h), fun h => by simpa [sput] using h6 (by simpa [did] using h), fun h => by simpa [sput] using h7 (by simpa [did] using h), fun _ => by simp [sput], fun h => by simpa [sput] using h9 (by simpa [did] using h), fun h => by simpa [sput] using h10 (by simpa [did] using h), fun h => by simpa [sput] using h11 (by simpa [did] using h), fun h => by simpa [sput] using h12 (by simpa [did] using h), fun h => by simpa [sput] using h13 (by simpa [did] using h), fun h => by simpa [sput] using h14 (by simpa [did] using h), hT⟩
    · have g8 := h8 (by simp [hdep])
      unfold OpSteps
      have pc := cell_below HCc.out hT
      simp [go_sem, evS, g8, pc]
      exact ⟨fun h => by simpa [sput] using h0 (by simpa [did] using h), fun h => by simpa [sput] using h1 (by simpa [did] using h), fun h => by simpa [sput] using h2 (by simpa [did] using h), fun h => by simpa [sput] using h3 (by simpa [did] using h), fun h => by simpa [sput] using h4 (by simpa [did] using h), fun h => by simpa [sput] using h5 (by simpa [did] using h), fun h => by simpa [sput] using h6 (by simpa [did] using h), fun h => by simpa [sput] using h7 (by simpa [did] using h), fun h => by simpa [sput] using h8 (by simpa [did] using h), fun _ => by simp [sput], fun h => by simpa [sput] using h10 (by simpa [did] using h), fun h => by simpa [sput] using h11 (by simpa [did] using h), fun h => by simpa [sput] using h12 (by simpa [did] using h), fun h => by simpa [sput] using h13 (by simpa [did] using h), fun h => by simpa [sput] using h14 (by simpa [did] using h), hT⟩
    · have g9 := h9 (by simp [hdep])
      unfold OpSteps
      simp [go_sem, evS, g9]
      refine (HBd.out kc zc hzc.out W).mono ?_
      rintro e W' ⟨rfl, rfl⟩
      refine ⟨_, rfl, ?_⟩
      exact ⟨fun h => by simpa [sput] using h0 (by simpa [did] using h), fun h => by simpa [sput] using h1 (by simpa [did] using h), fun h => by simpa [sput] using h2 (by simpa [did] using h), fun h => by simpa [sput] using h3 (by simpa [did] using h), fun h => by simpa [sput] using h4 (by simpa [did] using h), fun h => by simpa [sput] using h5 (by simpa [did] using h), fun h => by simpa [sput] using h6 (by simpa [did] using h), fun h => by simpa [sput] using h7 (by simpa [did] using h), fun h => by simpa [sput] using h8 (by simpa [did] using h), fun h => by simpa [sput] using h9 (by simpa [did] using h), fun _ => by simp [sput], fun h => by simpa [sput] using h11 (by simpa [did] using h), fun h => by simpa [sput] using h12 (by simpa [did] using h), fun h => by simpa [sput] using h13 (by simpa [did] using h), fun h => by simpa [sput] using h14 (by simpa [did] using h), hT⟩
    · have g5 := h5 (by simp [hdep])
      have g10 := h10 (by simp [hdep])
      unfold OpSteps
      simp [go_sem, evS, g5, g10, wz, wz2]
      exact ⟨fun h => by simpa [sput] using h0 (by simpa [did] using h), fun h => by simpa [sput] using h1 (by simpa [did] using h), fun h => by simpa [sput] using h2 (by simpa [did] using h), fun h => by simpa [sput] using h3 (by simpa [did] using h), fun h => by simpa [sput] using h4 (by simpa [did] using h), fun h => by simpa [sput] using h5 (by simpa [did] using h), fun h => by simpa [sput] using h6 (by simpa [did] using h), fun h => by simpa [sput] using h7 (by simpa [did] using h), fun h => by simpa [sput] using h8 (by simpa [did] using h), fun h => by simpa [sput] using h9 (by simpa [did] using h), fun h => by simpa [sput] using h10 (by simpa [did] using h), fun _ => by simp [sput], fun h => by simpa [sput] using h12 (by simpa [did] using h), fun h => by simpa [sput] using h13 (by simpa [did] using h), fun h => by simpa [sput] using h14 (by simpa [did] using h), hT⟩
    · have g11 := h11 (by simp [hdep])
      unfold OpSteps
      simp [go_sem, evS, g11]
      refine (HBd.out zs zf hzf.out W).mono ?_
      rintro e W' ⟨rfl, rfl⟩
      refine ⟨_, rfl, ?_⟩
      exact ⟨fun h => by simpa [sput] using h0 (by simpa [did] using h), fun h => by simpa [sput] using h1 (by simpa [did] using h), fun h => by simpa [sput] using h2 (by simpa [did] using h), fun h => by simpa [sput] using h3 (by simpa [did] using h), fun h => by simpa [sput] using h4 (by simpa [did] using h), fun h => by simpa [sput] using h5 (by simpa [did] using h), fun h => by simpa [sput] using h6 (by simpa [did] using h), fun h => by simpa [sput] using h7 (by simpa [did] using h), fun h => by simpa [sput] using h8 (by simpa [did] using h), fun h => by simpa [sput] using h9 (by simpa [did] using h), fun h => by simpa [sput] using h10 (by simpa [did] using h), fun h => by simpa [sput] using h11 (by simpa [did] using h), fun _ => by simp [sput], fun h => by simpa [sput] using h13 (by simpa [did] using h), fun h => by simpa [sput] using h14 (by simpa [did] using h), hT⟩
    · have g0 := h0 (by simp [hdep])
      have g12 := h12 (by simp [hdep])
      unfold OpSteps
      simp [go_sem, evS, g0, g12]
      refine (HSc.out W).mono ?_
      rintro e W' ⟨rfl, hb⟩
      refine ⟨_, rfl, ?_⟩
      exact ⟨fun h => by simpa [sput] using h0 (by simpa [did] using h), fun h => by simpa [sput] using h1 (by simpa [did] using h), fun h => by simpa [sput] using h2 (by simpa [did] using h), fun h => by simpa [sput] using h3 (by simpa [did] using h), fun h => by simpa [sput] using h4 (by simpa [did] using h), fun h => by simpa [sput] using h5 (by simpa [did] using h), fun h => by simpa [sput] using h6 (by simpa [did] using h), fun h => by simpa [sput] using h7 (by simpa [did] using h), fun h => by simpa [sput] using h8 (by simpa [did] using h), fun h => by simpa [sput] using h9 (by simpa [did] using h), fun h => by simpa [sput] using h10 (by simpa [did] using h), fun h => by simpa [sput] using h11 (by simpa [did] using h), fun h => by simpa [sput] using h12 (by simpa [did] using h), fun _ => by simp [sput], fun h => by simpa [sput] using h14 (by simpa [did] using h), below_nx hT hb⟩
    · have g13 := h13 (by simp [hdep])
      unfold OpSteps
      simp [go_sem, evS, g13]
      exact ⟨fun h => by simpa [sput] using h0 (by simpa [did] using h), fun h => by simpa [sput] using h1 (by simpa [did] using h), fun h => by simpa [sput] using h2 (by simpa [did] using h), fun h => by simpa [sput] using h3 (by simpa [did] using h), fun h => by simpa [sput] using h4 (by simpa [did] using h), fun h => by simpa [sput] using h5 (by simpa [did] using h), fun h => by simpa [sput] using h6 (by simpa [did] using h), fun h => by simpa [sput] using h7 (by simpa [did] using h), fun h => by simpa [sput] using h8 (by simpa [did] using h), fun h => by simpa [sput] using h9 (by simpa [did] using h), fun h => by simpa [sput] using h10 (by simpa [did] using h), fun h => by simpa [sput] using h11 (by simpa [did] using h), fun h => by simpa [sput] using h12 (by simpa [did] using h), fun h => by simpa [sput] using h13 (by simpa [did] using h), fun _ => by simp [sput], hT⟩
  intro d s W hJ hd
  obtain ⟨h0, h1, h2, h3, h4, h5, h6, h7, h8, h9, h10, h11, h12, h13, h14, hT⟩ := hJ
  have hs := h14 (hd 14 (by decide))
  have HBe := Lib.hid hT
  clear h0 h1 h2 h3 h4 h5 h6 h7 h8 h9 h10 h11 h12 h13 h14 hT hd
  simp [setAll, hs]
  clear hs
  go_wp2_with fail
  go_ret
  exact ⟨rfl, HBe.out⟩
end Go.Proofs.Ytmjaakngiilmdaa
/-
Ger: the program's Ger, why not, and what it makes. Conditions: as each says.
-/
set_option linter.unusedVariables false
set_option linter.unusedSimpArgs false
set_option linter.unnecessarySimpa false
namespace Go.Proofs.Ytmjaakngiilmdaa
open Go.RowKit
attribute [local go_sem ↓] Go.wp_at_zero Go.wp_at_succ

theorem cells1g {w : World} {g : Nat} {t : TypeId} {v : Value} (h : Blk w g t #[v]) : w.cell? ⟨g, 0, none⟩ = some v ∧ True := ⟨h.cell 0, trivial⟩
set_option maxHeartbeats 2000000 in
theorem grger_bad (a : Nat) (Ax : Option Addr) (nx cx : Nat) (xo xk xi : Int) (Ay : Option Addr) (ny cy : Nat) (yo yk yi : Int) (Am : Option Addr) (nm cm : Nat) (mo mr mk ml : Int) (w : World) (hnx : nx < 9223372036854775808) (hxo : I64 xo) (hxk : I64 xk) (hxi : I64 xi) (hny : ny < 9223372036854775808) (hyo : I64 yo) (hyk : I64 yk) (hyi : I64 yi) (hnm : nm < 9223372036854775808) (hmo : I64 mo) (hmr : I64 mr) (hmk : I64 mk) (hml : I64 ml) (h : (vecB nx xo xk xi && vecB ny yo yk yi && matB nm mo mr mk ml) = false) :
    Calls Try.prog 17 #[.float .f64 a, vec Ax nx cx xo xk xi, vec Ay ny cy yo yk yi, mat Am nm cm mo mr mk ml] w fun e w' => e = .returned (.int .i64 1) ∧ Below w.heap.size w w' := by
  have HRx := Lib.hid (fun W => right_any Ax nx cx xo xk xi W hnx hxo hxk hxi)
  have HRy := Lib.hid (fun W => right_any Ay ny cy yo yk yi W hny hyo hyk hyi)
  have HG := Lib.hid (fun W => good_any Am nm cm mo mr mk ml W hnm hmo hmr hmk hml)
  generalize vecB nx xo xk xi = b1 at *
  generalize vecB ny yo yk yi = b2 at *
  generalize matB nm mo mr mk ml = b3 at *
  clear hnx hxo hxk hxi hny hyo hyk hyi hnm hmo hmr hmk hml
  cases b1
  · clear h
    unfold mat vec at *
    go_enter Try.func17, Try.ntmps17
    have Ha0 := Lib.hid ((((Blk.new w 28 #[.float .f64 a]).alloc (.cells #[.slice Ax nx cx, .int .i64 xo, .int .i64 xk, .int .i64 xi] 32)).alloc (.cells #[.slice Ay ny cy, .int .i64 yo, .int .i64 yk, .int .i64 yi] 32)).alloc (.cells #[.slice Am nm cm, .int .i64 mo, .int .i64 mr, .int .i64 mk, .int .i64 ml] 26))
    have Hx0 := Lib.hid (((Blk.new_ (w.alloc (.cells #[.float .f64 a] 28)) 32 #[.slice Ax nx cx, .int .i64 xo, .int .i64 xk, .int .i64 xi] (w.heap.size + 1) (by simp)).alloc (.cells #[.slice Ay ny cy, .int .i64 yo, .int .i64 yk, .int .i64 yi] 32)).alloc (.cells #[.slice Am nm cm, .int .i64 mo, .int .i64 mr, .int .i64 mk, .int .i64 ml] 26))
    have Hy0 := Lib.hid ((Blk.new_ ((w.alloc (.cells #[.float .f64 a] 28)).alloc (.cells #[.slice Ax nx cx, .int .i64 xo, .int .i64 xk, .int .i64 xi] 32)) 32 #[.slice Ay ny cy, .int .i64 yo, .int .i64 yk, .int .i64 yi] (w.heap.size + 1 + 1) (by simp)).alloc (.cells #[.slice Am nm cm, .int .i64 mo, .int .i64 mr, .int .i64 mk, .int .i64 ml] 26))
    have Hm0 := Lib.hid (Blk.new_ (((w.alloc (.cells #[.float .f64 a] 28)).alloc (.cells #[.slice Ax nx cx, .int .i64 xo, .int .i64 xk, .int .i64 xi] 32)).alloc (.cells #[.slice Ay ny cy, .int .i64 yo, .int .i64 yk, .int .i64 yi] 32)) 26 #[.slice Am nm cm, .int .i64 mo, .int .i64 mr, .int .i64 mk, .int .i64 ml] (w.heap.size + 1 + 1 + 1) (by simp))
    have HB0 := Lib.hid (((((Below.refl w.heap.size w).alloc (Nat.le_refl _) (.cells #[.float .f64 a] 28)).alloc (by simp) (.cells #[.slice Ax nx cx, .int .i64 xo, .int .i64 xk, .int .i64 xi] 32)).alloc (by simp; omega) (.cells #[.slice Ay ny cy, .int .i64 yo, .int .i64 yk, .int .i64 yi] 32)).alloc (by simp; omega) (.cells #[.slice Am nm cm, .int .i64 mo, .int .i64 mr, .int .i64 mk, .int .i64 ml] 26))
    obtain ⟨a0, _⟩ := cells1g Ha0.out
    obtain ⟨x0, x1, x2, x3⟩ := cells4w Hx0.out
    obtain ⟨y0, y1, y2, y3⟩ := cells4w Hy0.out
    obtain ⟨m0, m1, m2, m3, m4⟩ := cells5 Hm0.out
    go_wp2_with fail
    refine (HRx.out _).mono ?_
    rintro e w1 ⟨rfl, hb⟩
    have Ha1 := Lib.hid (Ha0.out.nxt hb)
    have Hx1 := Lib.hid (Hx0.out.nxt hb)
    have Hy1 := Lib.hid (Hy0.out.nxt hb)
    have Hm1 := Lib.hid (Hm0.out.nxt hb)
    have HB1 := Lib.hid (below_nx HB0.out hb)
    clear hb
    clear a0 x0 x1 x2 x3 y0 y1 y2 y3 m0 m1 m2 m3 m4
    obtain ⟨a0, _⟩ := cells1g Ha1.out
    obtain ⟨x0, x1, x2, x3⟩ := cells4w Hx1.out
    obtain ⟨y0, y1, y2, y3⟩ := cells4w Hy1.out
    obtain ⟨m0, m1, m2, m3, m4⟩ := cells5 Hm1.out
    go_wp2_with fail
    go_ret
    exact ⟨rfl, HB1.out⟩
  · cases b2
    · clear h
      unfold mat vec at *
      go_enter Try.func17, Try.ntmps17
      have Ha0 := Lib.hid ((((Blk.new w 28 #[.float .f64 a]).alloc (.cells #[.slice Ax nx cx, .int .i64 xo, .int .i64 xk, .int .i64 xi] 32)).alloc (.cells #[.slice Ay ny cy, .int .i64 yo, .int .i64 yk, .int .i64 yi] 32)).alloc (.cells #[.slice Am nm cm, .int .i64 mo, .int .i64 mr, .int .i64 mk, .int .i64 ml] 26))
      have Hx0 := Lib.hid (((Blk.new_ (w.alloc (.cells #[.float .f64 a] 28)) 32 #[.slice Ax nx cx, .int .i64 xo, .int .i64 xk, .int .i64 xi] (w.heap.size + 1) (by simp)).alloc (.cells #[.slice Ay ny cy, .int .i64 yo, .int .i64 yk, .int .i64 yi] 32)).alloc (.cells #[.slice Am nm cm, .int .i64 mo, .int .i64 mr, .int .i64 mk, .int .i64 ml] 26))
      have Hy0 := Lib.hid ((Blk.new_ ((w.alloc (.cells #[.float .f64 a] 28)).alloc (.cells #[.slice Ax nx cx, .int .i64 xo, .int .i64 xk, .int .i64 xi] 32)) 32 #[.slice Ay ny cy, .int .i64 yo, .int .i64 yk, .int .i64 yi] (w.heap.size + 1 + 1) (by simp)).alloc (.cells #[.slice Am nm cm, .int .i64 mo, .int .i64 mr, .int .i64 mk, .int .i64 ml] 26))
      have Hm0 := Lib.hid (Blk.new_ (((w.alloc (.cells #[.float .f64 a] 28)).alloc (.cells #[.slice Ax nx cx, .int .i64 xo, .int .i64 xk, .int .i64 xi] 32)).alloc (.cells #[.slice Ay ny cy, .int .i64 yo, .int .i64 yk, .int .i64 yi] 32)) 26 #[.slice Am nm cm, .int .i64 mo, .int .i64 mr, .int .i64 mk, .int .i64 ml] (w.heap.size + 1 + 1 + 1) (by simp))
      have HB0 := Lib.hid (((((Below.refl w.heap.size w).alloc (Nat.le_refl _) (.cells #[.float .f64 a] 28)).alloc (by simp) (.cells #[.slice Ax nx cx, .int .i64 xo, .int .i64 xk, .int .i64 xi] 32)).alloc (by simp; omega) (.cells #[.slice Ay ny cy, .int .i64 yo, .int .i64 yk, .int .i64 yi] 32)).alloc (by simp; omega) (.cells #[.slice Am nm cm, .int .i64 mo, .int .i64 mr, .int .i64 mk, .int .i64 ml] 26))
      obtain ⟨a0, _⟩ := cells1g Ha0.out
      obtain ⟨x0, x1, x2, x3⟩ := cells4w Hx0.out
      obtain ⟨y0, y1, y2, y3⟩ := cells4w Hy0.out
      obtain ⟨m0, m1, m2, m3, m4⟩ := cells5 Hm0.out
      go_wp2_with fail
      refine (HRx.out _).mono ?_
      rintro e w1 ⟨rfl, hb⟩
      have Ha1 := Lib.hid (Ha0.out.nxt hb)
      have Hx1 := Lib.hid (Hx0.out.nxt hb)
      have Hy1 := Lib.hid (Hy0.out.nxt hb)
      have Hm1 := Lib.hid (Hm0.out.nxt hb)
      have HB1 := Lib.hid (below_nx HB0.out hb)
      clear hb
      clear a0 x0 x1 x2 x3 y0 y1 y2 y3 m0 m1 m2 m3 m4
      obtain ⟨a0, _⟩ := cells1g Ha1.out
      obtain ⟨x0, x1, x2, x3⟩ := cells4w Hx1.out
      obtain ⟨y0, y1, y2, y3⟩ := cells4w Hy1.out
      obtain ⟨m0, m1, m2, m3, m4⟩ := cells5 Hm1.out
      go_wp2_with fail
      refine (HRy.out _).mono ?_
      rintro e w2 ⟨rfl, hb⟩
      have Ha2 := Lib.hid (Ha1.out.nxt hb)
      have Hx2 := Lib.hid (Hx1.out.nxt hb)
      have Hy2 := Lib.hid (Hy1.out.nxt hb)
      have Hm2 := Lib.hid (Hm1.out.nxt hb)
      have HB2 := Lib.hid (below_nx HB1.out hb)
      clear hb
      clear a0 x0 x1 x2 x3 y0 y1 y2 y3 m0 m1 m2 m3 m4
      obtain ⟨a0, _⟩ := cells1g Ha2.out
      obtain ⟨x0, x1, x2, x3⟩ := cells4w Hx2.out
      obtain ⟨y0, y1, y2, y3⟩ := cells4w Hy2.out
      obtain ⟨m0, m1, m2, m3, m4⟩ := cells5 Hm2.out
      go_wp2_with fail
      go_ret
      exact ⟨rfl, HB2.out⟩
    · have hb3 : b3 = false := by simpa using h
      subst hb3
      clear h
      unfold mat vec at *
      go_enter Try.func17, Try.ntmps17
      have Ha0 := Lib.hid ((((Blk.new w 28 #[.float .f64 a]).alloc (.cells #[.slice Ax nx cx, .int .i64 xo, .int .i64 xk, .int .i64 xi] 32)).alloc (.cells #[.slice Ay ny cy, .int .i64 yo, .int .i64 yk, .int .i64 yi] 32)).alloc (.cells #[.slice Am nm cm, .int .i64 mo, .int .i64 mr, .int .i64 mk, .int .i64 ml] 26))
      have Hx0 := Lib.hid (((Blk.new_ (w.alloc (.cells #[.float .f64 a] 28)) 32 #[.slice Ax nx cx, .int .i64 xo, .int .i64 xk, .int .i64 xi] (w.heap.size + 1) (by simp)).alloc (.cells #[.slice Ay ny cy, .int .i64 yo, .int .i64 yk, .int .i64 yi] 32)).alloc (.cells #[.slice Am nm cm, .int .i64 mo, .int .i64 mr, .int .i64 mk, .int .i64 ml] 26))
      have Hy0 := Lib.hid ((Blk.new_ ((w.alloc (.cells #[.float .f64 a] 28)).alloc (.cells #[.slice Ax nx cx, .int .i64 xo, .int .i64 xk, .int .i64 xi] 32)) 32 #[.slice Ay ny cy, .int .i64 yo, .int .i64 yk, .int .i64 yi] (w.heap.size + 1 + 1) (by simp)).alloc (.cells #[.slice Am nm cm, .int .i64 mo, .int .i64 mr, .int .i64 mk, .int .i64 ml] 26))
      have Hm0 := Lib.hid (Blk.new_ (((w.alloc (.cells #[.float .f64 a] 28)).alloc (.cells #[.slice Ax nx cx, .int .i64 xo, .int .i64 xk, .int .i64 xi] 32)).alloc (.cells #[.slice Ay ny cy, .int .i64 yo, .int .i64 yk, .int .i64 yi] 32)) 26 #[.slice Am nm cm, .int .i64 mo, .int .i64 mr, .int .i64 mk, .int .i64 ml] (w.heap.size + 1 + 1 + 1) (by simp))
      have HB0 := Lib.hid (((((Below.refl w.heap.size w).alloc (Nat.le_refl _) (.cells #[.float .f64 a] 28)).alloc (by simp) (.cells #[.slice Ax nx cx, .int .i64 xo, .int .i64 xk, .int .i64 xi] 32)).alloc (by simp; omega) (.cells #[.slice Ay ny cy, .int .i64 yo, .int .i64 yk, .int .i64 yi] 32)).alloc (by simp; omega) (.cells #[.slice Am nm cm, .int .i64 mo, .int .i64 mr, .int .i64 mk, .int .i64 ml] 26))
      obtain ⟨a0, _⟩ := cells1g Ha0.out
      obtain ⟨x0, x1, x2, x3⟩ := cells4w Hx0.out
      obtain ⟨y0, y1, y2, y3⟩ := cells4w Hy0.out
      obtain ⟨m0, m1, m2, m3, m4⟩ := cells5 Hm0.out
      go_wp2_with fail
      refine (HRx.out _).mono ?_
      rintro e w1 ⟨rfl, hb⟩
      have Ha1 := Lib.hid (Ha0.out.nxt hb)
      have Hx1 := Lib.hid (Hx0.out.nxt hb)
      have Hy1 := Lib.hid (Hy0.out.nxt hb)
      have Hm1 := Lib.hid (Hm0.out.nxt hb)
      have HB1 := Lib.hid (below_nx HB0.out hb)
      clear hb
      clear a0 x0 x1 x2 x3 y0 y1 y2 y3 m0 m1 m2 m3 m4
      obtain ⟨a0, _⟩ := cells1g Ha1.out
      obtain ⟨x0, x1, x2, x3⟩ := cells4w Hx1.out
      obtain ⟨y0, y1, y2, y3⟩ := cells4w Hy1.out
      obtain ⟨m0, m1, m2, m3, m4⟩ := cells5 Hm1.out
      go_wp2_with fail
      refine (HRy.out _).mono ?_
      rintro e w2 ⟨rfl, hb⟩
      have Ha2 := Lib.hid (Ha1.out.nxt hb)
      have Hx2 := Lib.hid (Hx1.out.nxt hb)
      have Hy2 := Lib.hid (Hy1.out.nxt hb)
      have Hm2 := Lib.hid (Hm1.out.nxt hb)
      have HB2 := Lib.hid (below_nx HB1.out hb)
      clear hb
      clear a0 x0 x1 x2 x3 y0 y1 y2 y3 m0 m1 m2 m3 m4
      obtain ⟨a0, _⟩ := cells1g Ha2.out
      obtain ⟨x0, x1, x2, x3⟩ := cells4w Hx2.out
      obtain ⟨y0, y1, y2, y3⟩ := cells4w Hy2.out
      obtain ⟨m0, m1, m2, m3, m4⟩ := cells5 Hm2.out
      go_wp2_with fail
      refine (HG.out _).mono ?_
      rintro e w3 ⟨rfl, hb⟩
      have Ha3 := Lib.hid (Ha2.out.nxt hb)
      have Hx3 := Lib.hid (Hx2.out.nxt hb)
      have Hy3 := Lib.hid (Hy2.out.nxt hb)
      have Hm3 := Lib.hid (Hm2.out.nxt hb)
      have HB3 := Lib.hid (below_nx HB2.out hb)
      clear hb
      clear a0 x0 x1 x2 x3 y0 y1 y2 y3 m0 m1 m2 m3 m4
      obtain ⟨a0, _⟩ := cells1g Ha3.out
      obtain ⟨x0, x1, x2, x3⟩ := cells4w Hx3.out
      obtain ⟨y0, y1, y2, y3⟩ := cells4w Hy3.out
      obtain ⟨m0, m1, m2, m3, m4⟩ := cells5 Hm3.out
      go_wp2_with fail
      go_ret
      exact ⟨rfl, HB3.out⟩

set_option maxHeartbeats 2000000 in
theorem grger_size (a : Nat) (Ax : Option Addr) (nx cx : Nat) (xo xk xi : Int) (Ay : Option Addr) (ny cy : Nat) (yo yk yi : Int) (Am : Option Addr) (nm cm : Nat) (mo mr mk ml : Int) (w : World) (hnx : nx < 9223372036854775808) (hxo : I64 xo) (hxk : I64 xk) (hxi : I64 xi) (hny : ny < 9223372036854775808) (hyo : I64 yo) (hyk : I64 yk) (hyi : I64 yi) (hnm : nm < 9223372036854775808) (hmo : I64 mo) (hmr : I64 mr) (hmk : I64 mk) (hml : I64 ml) (h : (vecB nx xo xk xi && vecB ny yo yk yi && matB nm mo mr mk ml) = true) (hs : ¬ (xk = mr ∧ yk = mk)) :
    Calls Try.prog 17 #[.float .f64 a, vec Ax nx cx xo xk xi, vec Ay ny cy yo yk yi, mat Am nm cm mo mr mk ml] w fun e w' => e = .returned (.int .i64 3) ∧ Below w.heap.size w w' := by
  have HRx := Lib.hid (fun W => right_any Ax nx cx xo xk xi W hnx hxo hxk hxi)
  have HRy := Lib.hid (fun W => right_any Ay ny cy yo yk yi W hny hyo hyk hyi)
  have HG := Lib.hid (fun W => good_any Am nm cm mo mr mk ml W hnm hmo hmr hmk hml)
  simp only [Bool.and_eq_true] at h
  rw [h.1.1] at HRx
  rw [h.1.2] at HRy
  rw [h.2] at HG
  clear h
  clear hnx hxo hxk hxi hny hyo hyk hyi hnm hmo hmr hmk hml
  by_cases e1 : xk = mr
  · have t1 : (xk == mr) = true := by simp [e1]
    have t1' : (xk != mr) = false := by simp [e1]
    have e2 : ¬ yk = mk := fun e => hs ⟨e1, e⟩
    have t2 : (yk == mk) = false := by simp [e2]
    have t2' : (yk != mk) = true := by simp [e2]
    clear e1 e2 hs
    unfold mat vec at *
    go_enter Try.func17, Try.ntmps17
    have Ha0 := Lib.hid ((((Blk.new w 28 #[.float .f64 a]).alloc (.cells #[.slice Ax nx cx, .int .i64 xo, .int .i64 xk, .int .i64 xi] 32)).alloc (.cells #[.slice Ay ny cy, .int .i64 yo, .int .i64 yk, .int .i64 yi] 32)).alloc (.cells #[.slice Am nm cm, .int .i64 mo, .int .i64 mr, .int .i64 mk, .int .i64 ml] 26))
    have Hx0 := Lib.hid (((Blk.new_ (w.alloc (.cells #[.float .f64 a] 28)) 32 #[.slice Ax nx cx, .int .i64 xo, .int .i64 xk, .int .i64 xi] (w.heap.size + 1) (by simp)).alloc (.cells #[.slice Ay ny cy, .int .i64 yo, .int .i64 yk, .int .i64 yi] 32)).alloc (.cells #[.slice Am nm cm, .int .i64 mo, .int .i64 mr, .int .i64 mk, .int .i64 ml] 26))
    have Hy0 := Lib.hid ((Blk.new_ ((w.alloc (.cells #[.float .f64 a] 28)).alloc (.cells #[.slice Ax nx cx, .int .i64 xo, .int .i64 xk, .int .i64 xi] 32)) 32 #[.slice Ay ny cy, .int .i64 yo, .int .i64 yk, .int .i64 yi] (w.heap.size + 1 + 1) (by simp)).alloc (.cells #[.slice Am nm cm, .int .i64 mo, .int .i64 mr, .int .i64 mk, .int .i64 ml] 26))
    have Hm0 := Lib.hid (Blk.new_ (((w.alloc (.cells #[.float .f64 a] 28)).alloc (.cells #[.slice Ax nx cx, .int .i64 xo, .int .i64 xk, .int .i64 xi] 32)).alloc (.cells #[.slice Ay ny cy, .int .i64 yo, .int .i64 yk, .int .i64 yi] 32)) 26 #[.slice Am nm cm, .int .i64 mo, .int .i64 mr, .int .i64 mk, .int .i64 ml] (w.heap.size + 1 + 1 + 1) (by simp))
    have HB0 := Lib.hid (((((Below.refl w.heap.size w).alloc (Nat.le_refl _) (.cells #[.float .f64 a] 28)).alloc (by simp) (.cells #[.slice Ax nx cx, .int .i64 xo, .int .i64 xk, .int .i64 xi] 32)).alloc (by simp; omega) (.cells #[.slice Ay ny cy, .int .i64 yo, .int .i64 yk, .int .i64 yi] 32)).alloc (by simp; omega) (.cells #[.slice Am nm cm, .int .i64 mo, .int .i64 mr, .int .i64 mk, .int .i64 ml] 26))
    obtain ⟨a0, _⟩ := cells1g Ha0.out
    obtain ⟨x0, x1, x2, x3⟩ := cells4w Hx0.out
    obtain ⟨y0, y1, y2, y3⟩ := cells4w Hy0.out
    obtain ⟨m0, m1, m2, m3, m4⟩ := cells5 Hm0.out
    go_wp2_with fail
    refine (HRx.out _).mono ?_
    rintro e w1 ⟨rfl, hb⟩
    have Ha1 := Lib.hid (Ha0.out.nxt hb)
    have Hx1 := Lib.hid (Hx0.out.nxt hb)
    have Hy1 := Lib.hid (Hy0.out.nxt hb)
    have Hm1 := Lib.hid (Hm0.out.nxt hb)
    have HB1 := Lib.hid (below_nx HB0.out hb)
    clear hb
    clear a0 x0 x1 x2 x3 y0 y1 y2 y3 m0 m1 m2 m3 m4
    obtain ⟨a0, _⟩ := cells1g Ha1.out
    obtain ⟨x0, x1, x2, x3⟩ := cells4w Hx1.out
    obtain ⟨y0, y1, y2, y3⟩ := cells4w Hy1.out
    obtain ⟨m0, m1, m2, m3, m4⟩ := cells5 Hm1.out
    go_wp2_with fail
    refine (HRy.out _).mono ?_
    rintro e w2 ⟨rfl, hb⟩
    have Ha2 := Lib.hid (Ha1.out.nxt hb)
    have Hx2 := Lib.hid (Hx1.out.nxt hb)
    have Hy2 := Lib.hid (Hy1.out.nxt hb)
    have Hm2 := Lib.hid (Hm1.out.nxt hb)
    have HB2 := Lib.hid (below_nx HB1.out hb)
    clear hb
    clear a0 x0 x1 x2 x3 y0 y1 y2 y3 m0 m1 m2 m3 m4
    obtain ⟨a0, _⟩ := cells1g Ha2.out
    obtain ⟨x0, x1, x2, x3⟩ := cells4w Hx2.out
    obtain ⟨y0, y1, y2, y3⟩ := cells4w Hy2.out
    obtain ⟨m0, m1, m2, m3, m4⟩ := cells5 Hm2.out
    go_wp2_with fail
    refine (HG.out _).mono ?_
    rintro e w3 ⟨rfl, hb⟩
    have Ha3 := Lib.hid (Ha2.out.nxt hb)
    have Hx3 := Lib.hid (Hx2.out.nxt hb)
    have Hy3 := Lib.hid (Hy2.out.nxt hb)
    have Hm3 := Lib.hid (Hm2.out.nxt hb)
    have HB3 := Lib.hid (below_nx HB2.out hb)
    clear hb
    clear a0 x0 x1 x2 x3 y0 y1 y2 y3 m0 m1 m2 m3 m4
    obtain ⟨a0, _⟩ := cells1g Ha3.out
    obtain ⟨x0, x1, x2, x3⟩ := cells4w Hx3.out
    obtain ⟨y0, y1, y2, y3⟩ := cells4w Hy3.out
    obtain ⟨m0, m1, m2, m3, m4⟩ := cells5 Hm3.out
    go_wp2_with fail
    go_ret
    exact ⟨rfl, HB3.out⟩
  · have t1 : (xk == mr) = false := by simp [e1]
    have t1' : (xk != mr) = true := by simp [e1]
    clear e1 hs
    unfold mat vec at *
    go_enter Try.func17, Try.ntmps17
    have Ha0 := Lib.hid ((((Blk.new w 28 #[.float .f64 a]).alloc (.cells #[.slice Ax nx cx, .int .i64 xo, .int .i64 xk, .int .i64 xi] 32)).alloc (.cells #[.slice Ay ny cy, .int .i64 yo, .int .i64 yk, .int .i64 yi] 32)).alloc (.cells #[.slice Am nm cm, .int .i64 mo, .int .i64 mr, .int .i64 mk, .int .i64 ml] 26))
    have Hx0 := Lib.hid (((Blk.new_ (w.alloc (.cells #[.float .f64 a] 28)) 32 #[.slice Ax nx cx, .int .i64 xo, .int .i64 xk, .int .i64 xi] (w.heap.size + 1) (by simp)).alloc (.cells #[.slice Ay ny cy, .int .i64 yo, .int .i64 yk, .int .i64 yi] 32)).alloc (.cells #[.slice Am nm cm, .int .i64 mo, .int .i64 mr, .int .i64 mk, .int .i64 ml] 26))
    have Hy0 := Lib.hid ((Blk.new_ ((w.alloc (.cells #[.float .f64 a] 28)).alloc (.cells #[.slice Ax nx cx, .int .i64 xo, .int .i64 xk, .int .i64 xi] 32)) 32 #[.slice Ay ny cy, .int .i64 yo, .int .i64 yk, .int .i64 yi] (w.heap.size + 1 + 1) (by simp)).alloc (.cells #[.slice Am nm cm, .int .i64 mo, .int .i64 mr, .int .i64 mk, .int .i64 ml] 26))
    have Hm0 := Lib.hid (Blk.new_ (((w.alloc (.cells #[.float .f64 a] 28)).alloc (.cells #[.slice Ax nx cx, .int .i64 xo, .int .i64 xk, .int .i64 xi] 32)).alloc (.cells #[.slice Ay ny cy, .int .i64 yo, .int .i64 yk, .int .i64 yi] 32)) 26 #[.slice Am nm cm, .int .i64 mo, .int .i64 mr, .int .i64 mk, .int .i64 ml] (w.heap.size + 1 + 1 + 1) (by simp))
    have HB0 := Lib.hid (((((Below.refl w.heap.size w).alloc (Nat.le_refl _) (.cells #[.float .f64 a] 28)).alloc (by simp) (.cells #[.slice Ax nx cx, .int .i64 xo, .int .i64 xk, .int .i64 xi] 32)).alloc (by simp; omega) (.cells #[.slice Ay ny cy, .int .i64 yo, .int .i64 yk, .int .i64 yi] 32)).alloc (by simp; omega) (.cells #[.slice Am nm cm, .int .i64 mo, .int .i64 mr, .int .i64 mk, .int .i64 ml] 26))
    obtain ⟨a0, _⟩ := cells1g Ha0.out
    obtain ⟨x0, x1, x2, x3⟩ := cells4w Hx0.out
    obtain ⟨y0, y1, y2, y3⟩ := cells4w Hy0.out
    obtain ⟨m0, m1, m2, m3, m4⟩ := cells5 Hm0.out
    go_wp2_with fail
    refine (HRx.out _).mono ?_
    rintro e w1 ⟨rfl, hb⟩
    have Ha1 := Lib.hid (Ha0.out.nxt hb)
    have Hx1 := Lib.hid (Hx0.out.nxt hb)
    have Hy1 := Lib.hid (Hy0.out.nxt hb)
    have Hm1 := Lib.hid (Hm0.out.nxt hb)
    have HB1 := Lib.hid (below_nx HB0.out hb)
    clear hb
    clear a0 x0 x1 x2 x3 y0 y1 y2 y3 m0 m1 m2 m3 m4
    obtain ⟨a0, _⟩ := cells1g Ha1.out
    obtain ⟨x0, x1, x2, x3⟩ := cells4w Hx1.out
    obtain ⟨y0, y1, y2, y3⟩ := cells4w Hy1.out
    obtain ⟨m0, m1, m2, m3, m4⟩ := cells5 Hm1.out
    go_wp2_with fail
    refine (HRy.out _).mono ?_
    rintro e w2 ⟨rfl, hb⟩
    have Ha2 := Lib.hid (Ha1.out.nxt hb)
    have Hx2 := Lib.hid (Hx1.out.nxt hb)
    have Hy2 := Lib.hid (Hy1.out.nxt hb)
    have Hm2 := Lib.hid (Hm1.out.nxt hb)
    have HB2 := Lib.hid (below_nx HB1.out hb)
    clear hb
    clear a0 x0 x1 x2 x3 y0 y1 y2 y3 m0 m1 m2 m3 m4
    obtain ⟨a0, _⟩ := cells1g Ha2.out
    obtain ⟨x0, x1, x2, x3⟩ := cells4w Hx2.out
    obtain ⟨y0, y1, y2, y3⟩ := cells4w Hy2.out
    obtain ⟨m0, m1, m2, m3, m4⟩ := cells5 Hm2.out
    go_wp2_with fail
    refine (HG.out _).mono ?_
    rintro e w3 ⟨rfl, hb⟩
    have Ha3 := Lib.hid (Ha2.out.nxt hb)
    have Hx3 := Lib.hid (Hx2.out.nxt hb)
    have Hy3 := Lib.hid (Hy2.out.nxt hb)
    have Hm3 := Lib.hid (Hm2.out.nxt hb)
    have HB3 := Lib.hid (below_nx HB2.out hb)
    clear hb
    clear a0 x0 x1 x2 x3 y0 y1 y2 y3 m0 m1 m2 m3 m4
    obtain ⟨a0, _⟩ := cells1g Ha3.out
    obtain ⟨x0, x1, x2, x3⟩ := cells4w Hx3.out
    obtain ⟨y0, y1, y2, y3⟩ := cells4w Hy3.out
    obtain ⟨m0, m1, m2, m3, m4⟩ := cells5 Hm3.out
    go_wp2_with fail
    go_ret
    exact ⟨rfl, HB3.out⟩

set_option maxHeartbeats 2000000 in
theorem grger_meet (a : Nat) (Ax : Option Addr) (nx cx : Nat) (xo xi : Int) (Ay : Option Addr) (ny cy : Nat) (yo yi : Int) (Am : Option Addr) (nm cm : Nat) (mo mr mk ml : Int) (b1 b2 : Bool) (w : World) (hnx : nx < 9223372036854775808) (hxo : I64 xo) (hxi : I64 xi) (hny : ny < 9223372036854775808) (hyo : I64 yo) (hyi : I64 yi) (hnm : nm < 9223372036854775808) (hmo : I64 mo) (hmr : I64 mr) (hmk : I64 mk) (hml : I64 ml) (h : (vecB nx xo mr xi && vecB ny yo mk yi && matB nm mo mr mk ml) = true) (hx : ∀ W, Below w.heap.size w W → Calls Try.prog 48 #[vec Ax nx cx xo mr xi, mat Am nm cm mo mr mk ml] W fun e w' => e = .returned (.bool b1) ∧ Below W.heap.size W w') (hy : ∀ W, Below w.heap.size w W → Calls Try.prog 48 #[vec Ay ny cy yo mk yi, mat Am nm cm mo mr mk ml] W fun e w' => e = .returned (.bool b2) ∧ Below W.heap.size W w') (hb : (b1 || b2) = true) :
    Calls Try.prog 17 #[.float .f64 a, vec Ax nx cx xo mr xi, vec Ay ny cy yo mk yi, mat Am nm cm mo mr mk ml] w fun e w' => e = .returned (.int .i64 2) ∧ Below w.heap.size w w' := by
  have HRx := Lib.hid (fun W => right_any Ax nx cx xo mr xi W hnx hxo hmr hxi)
  have HRy := Lib.hid (fun W => right_any Ay ny cy yo mk yi W hny hyo hmk hyi)
  have HG := Lib.hid (fun W => good_any Am nm cm mo mr mk ml W hnm hmo hmr hmk hml)
  simp only [Bool.and_eq_true] at h
  rw [h.1.1] at HRx
  rw [h.1.2] at HRy
  rw [h.2] at HG
  clear h
  clear hnx hxo hxi hny hyo hyi hnm hmo hmr hmk hml
  have HMx := Lib.hid hx
  have HMy := Lib.hid hy
  clear hx hy
  have t1 : (mr == mr) = true := by simp
  have t1' : (mr != mr) = false := by simp
  have t2 : (mk == mk) = true := by simp
  have t2' : (mk != mk) = false := by simp
  cases b1
  · have hb2 : b2 = true := by simpa using hb
    subst hb2
    clear hb
    unfold mat vec at *
    go_enter Try.func17, Try.ntmps17
    have Ha0 := Lib.hid ((((Blk.new w 28 #[.float .f64 a]).alloc (.cells #[.slice Ax nx cx, .int .i64 xo, .int .i64 mr, .int .i64 xi] 32)).alloc (.cells #[.slice Ay ny cy, .int .i64 yo, .int .i64 mk, .int .i64 yi] 32)).alloc (.cells #[.slice Am nm cm, .int .i64 mo, .int .i64 mr, .int .i64 mk, .int .i64 ml] 26))
    have Hx0 := Lib.hid (((Blk.new_ (w.alloc (.cells #[.float .f64 a] 28)) 32 #[.slice Ax nx cx, .int .i64 xo, .int .i64 mr, .int .i64 xi] (w.heap.size + 1) (by simp)).alloc (.cells #[.slice Ay ny cy, .int .i64 yo, .int .i64 mk, .int .i64 yi] 32)).alloc (.cells #[.slice Am nm cm, .int .i64 mo, .int .i64 mr, .int .i64 mk, .int .i64 ml] 26))
    have Hy0 := Lib.hid ((Blk.new_ ((w.alloc (.cells #[.float .f64 a] 28)).alloc (.cells #[.slice Ax nx cx, .int .i64 xo, .int .i64 mr, .int .i64 xi] 32)) 32 #[.slice Ay ny cy, .int .i64 yo, .int .i64 mk, .int .i64 yi] (w.heap.size + 1 + 1) (by simp)).alloc (.cells #[.slice Am nm cm, .int .i64 mo, .int .i64 mr, .int .i64 mk, .int .i64 ml] 26))
    have Hm0 := Lib.hid (Blk.new_ (((w.alloc (.cells #[.float .f64 a] 28)).alloc (.cells #[.slice Ax nx cx, .int .i64 xo, .int .i64 mr, .int .i64 xi] 32)).alloc (.cells #[.slice Ay ny cy, .int .i64 yo, .int .i64 mk, .int .i64 yi] 32)) 26 #[.slice Am nm cm, .int .i64 mo, .int .i64 mr, .int .i64 mk, .int .i64 ml] (w.heap.size + 1 + 1 + 1) (by simp))
    have HB0 := Lib.hid (((((Below.refl w.heap.size w).alloc (Nat.le_refl _) (.cells #[.float .f64 a] 28)).alloc (by simp) (.cells #[.slice Ax nx cx, .int .i64 xo, .int .i64 mr, .int .i64 xi] 32)).alloc (by simp; omega) (.cells #[.slice Ay ny cy, .int .i64 yo, .int .i64 mk, .int .i64 yi] 32)).alloc (by simp; omega) (.cells #[.slice Am nm cm, .int .i64 mo, .int .i64 mr, .int .i64 mk, .int .i64 ml] 26))
    obtain ⟨a0, _⟩ := cells1g Ha0.out
    obtain ⟨x0, x1, x2, x3⟩ := cells4w Hx0.out
    obtain ⟨y0, y1, y2, y3⟩ := cells4w Hy0.out
    obtain ⟨m0, m1, m2, m3, m4⟩ := cells5 Hm0.out
    go_wp2_with fail
    refine (HRx.out _).mono ?_
    rintro e w1 ⟨rfl, hb⟩
    have Ha1 := Lib.hid (Ha0.out.nxt hb)
    have Hx1 := Lib.hid (Hx0.out.nxt hb)
    have Hy1 := Lib.hid (Hy0.out.nxt hb)
    have Hm1 := Lib.hid (Hm0.out.nxt hb)
    have HB1 := Lib.hid (below_nx HB0.out hb)
    clear hb
    clear a0 x0 x1 x2 x3 y0 y1 y2 y3 m0 m1 m2 m3 m4
    obtain ⟨a0, _⟩ := cells1g Ha1.out
    obtain ⟨x0, x1, x2, x3⟩ := cells4w Hx1.out
    obtain ⟨y0, y1, y2, y3⟩ := cells4w Hy1.out
    obtain ⟨m0, m1, m2, m3, m4⟩ := cells5 Hm1.out
    go_wp2_with fail
    refine (HRy.out _).mono ?_
    rintro e w2 ⟨rfl, hb⟩
    have Ha2 := Lib.hid (Ha1.out.nxt hb)
    have Hx2 := Lib.hid (Hx1.out.nxt hb)
    have Hy2 := Lib.hid (Hy1.out.nxt hb)
    have Hm2 := Lib.hid (Hm1.out.nxt hb)
    have HB2 := Lib.hid (below_nx HB1.out hb)
    clear hb
    clear a0 x0 x1 x2 x3 y0 y1 y2 y3 m0 m1 m2 m3 m4
    obtain ⟨a0, _⟩ := cells1g Ha2.out
    obtain ⟨x0, x1, x2, x3⟩ := cells4w Hx2.out
    obtain ⟨y0, y1, y2, y3⟩ := cells4w Hy2.out
    obtain ⟨m0, m1, m2, m3, m4⟩ := cells5 Hm2.out
    go_wp2_with fail
    refine (HG.out _).mono ?_
    rintro e w3 ⟨rfl, hb⟩
    have Ha3 := Lib.hid (Ha2.out.nxt hb)
    have Hx3 := Lib.hid (Hx2.out.nxt hb)
    have Hy3 := Lib.hid (Hy2.out.nxt hb)
    have Hm3 := Lib.hid (Hm2.out.nxt hb)
    have HB3 := Lib.hid (below_nx HB2.out hb)
    clear hb
    clear a0 x0 x1 x2 x3 y0 y1 y2 y3 m0 m1 m2 m3 m4
    obtain ⟨a0, _⟩ := cells1g Ha3.out
    obtain ⟨x0, x1, x2, x3⟩ := cells4w Hx3.out
    obtain ⟨y0, y1, y2, y3⟩ := cells4w Hy3.out
    obtain ⟨m0, m1, m2, m3, m4⟩ := cells5 Hm3.out
    go_wp2_with fail
    refine (HMx.out _ HB3.out).mono ?_
    rintro e w4 ⟨rfl, hb⟩
    have Ha4 := Lib.hid (Ha3.out.nxt hb)
    have Hx4 := Lib.hid (Hx3.out.nxt hb)
    have Hy4 := Lib.hid (Hy3.out.nxt hb)
    have Hm4 := Lib.hid (Hm3.out.nxt hb)
    have HB4 := Lib.hid (below_nx HB3.out hb)
    clear hb
    clear a0 x0 x1 x2 x3 y0 y1 y2 y3 m0 m1 m2 m3 m4
    obtain ⟨a0, _⟩ := cells1g Ha4.out
    obtain ⟨x0, x1, x2, x3⟩ := cells4w Hx4.out
    obtain ⟨y0, y1, y2, y3⟩ := cells4w Hy4.out
    obtain ⟨m0, m1, m2, m3, m4⟩ := cells5 Hm4.out
    go_wp2_with fail
    refine (HMy.out _ HB4.out).mono ?_
    rintro e w5 ⟨rfl, hb⟩
    have Ha5 := Lib.hid (Ha4.out.nxt hb)
    have Hx5 := Lib.hid (Hx4.out.nxt hb)
    have Hy5 := Lib.hid (Hy4.out.nxt hb)
    have Hm5 := Lib.hid (Hm4.out.nxt hb)
    have HB5 := Lib.hid (below_nx HB4.out hb)
    clear hb
    clear a0 x0 x1 x2 x3 y0 y1 y2 y3 m0 m1 m2 m3 m4
    obtain ⟨a0, _⟩ := cells1g Ha5.out
    obtain ⟨x0, x1, x2, x3⟩ := cells4w Hx5.out
    obtain ⟨y0, y1, y2, y3⟩ := cells4w Hy5.out
    obtain ⟨m0, m1, m2, m3, m4⟩ := cells5 Hm5.out
    go_wp2_with fail
    go_ret
    exact ⟨rfl, HB5.out⟩
  · clear hb
    unfold mat vec at *
    go_enter Try.func17, Try.ntmps17
    have Ha0 := Lib.hid ((((Blk.new w 28 #[.float .f64 a]).alloc (.cells #[.slice Ax nx cx, .int .i64 xo, .int .i64 mr, .int .i64 xi] 32)).alloc (.cells #[.slice Ay ny cy, .int .i64 yo, .int .i64 mk, .int .i64 yi] 32)).alloc (.cells #[.slice Am nm cm, .int .i64 mo, .int .i64 mr, .int .i64 mk, .int .i64 ml] 26))
    have Hx0 := Lib.hid (((Blk.new_ (w.alloc (.cells #[.float .f64 a] 28)) 32 #[.slice Ax nx cx, .int .i64 xo, .int .i64 mr, .int .i64 xi] (w.heap.size + 1) (by simp)).alloc (.cells #[.slice Ay ny cy, .int .i64 yo, .int .i64 mk, .int .i64 yi] 32)).alloc (.cells #[.slice Am nm cm, .int .i64 mo, .int .i64 mr, .int .i64 mk, .int .i64 ml] 26))
    have Hy0 := Lib.hid ((Blk.new_ ((w.alloc (.cells #[.float .f64 a] 28)).alloc (.cells #[.slice Ax nx cx, .int .i64 xo, .int .i64 mr, .int .i64 xi] 32)) 32 #[.slice Ay ny cy, .int .i64 yo, .int .i64 mk, .int .i64 yi] (w.heap.size + 1 + 1) (by simp)).alloc (.cells #[.slice Am nm cm, .int .i64 mo, .int .i64 mr, .int .i64 mk, .int .i64 ml] 26))
    have Hm0 := Lib.hid (Blk.new_ (((w.alloc (.cells #[.float .f64 a] 28)).alloc (.cells #[.slice Ax nx cx, .int .i64 xo, .int .i64 mr, .int .i64 xi] 32)).alloc (.cells #[.slice Ay ny cy, .int .i64 yo, .int .i64 mk, .int .i64 yi] 32)) 26 #[.slice Am nm cm, .int .i64 mo, .int .i64 mr, .int .i64 mk, .int .i64 ml] (w.heap.size + 1 + 1 + 1) (by simp))
    have HB0 := Lib.hid (((((Below.refl w.heap.size w).alloc (Nat.le_refl _) (.cells #[.float .f64 a] 28)).alloc (by simp) (.cells #[.slice Ax nx cx, .int .i64 xo, .int .i64 mr, .int .i64 xi] 32)).alloc (by simp; omega) (.cells #[.slice Ay ny cy, .int .i64 yo, .int .i64 mk, .int .i64 yi] 32)).alloc (by simp; omega) (.cells #[.slice Am nm cm, .int .i64 mo, .int .i64 mr, .int .i64 mk, .int .i64 ml] 26))
    obtain ⟨a0, _⟩ := cells1g Ha0.out
    obtain ⟨x0, x1, x2, x3⟩ := cells4w Hx0.out
    obtain ⟨y0, y1, y2, y3⟩ := cells4w Hy0.out
    obtain ⟨m0, m1, m2, m3, m4⟩ := cells5 Hm0.out
    go_wp2_with fail
    refine (HRx.out _).mono ?_
    rintro e w1 ⟨rfl, hb⟩
    have Ha1 := Lib.hid (Ha0.out.nxt hb)
    have Hx1 := Lib.hid (Hx0.out.nxt hb)
    have Hy1 := Lib.hid (Hy0.out.nxt hb)
    have Hm1 := Lib.hid (Hm0.out.nxt hb)
    have HB1 := Lib.hid (below_nx HB0.out hb)
    clear hb
    clear a0 x0 x1 x2 x3 y0 y1 y2 y3 m0 m1 m2 m3 m4
    obtain ⟨a0, _⟩ := cells1g Ha1.out
    obtain ⟨x0, x1, x2, x3⟩ := cells4w Hx1.out
    obtain ⟨y0, y1, y2, y3⟩ := cells4w Hy1.out
    obtain ⟨m0, m1, m2, m3, m4⟩ := cells5 Hm1.out
    go_wp2_with fail
    refine (HRy.out _).mono ?_
    rintro e w2 ⟨rfl, hb⟩
    have Ha2 := Lib.hid (Ha1.out.nxt hb)
    have Hx2 := Lib.hid (Hx1.out.nxt hb)
    have Hy2 := Lib.hid (Hy1.out.nxt hb)
    have Hm2 := Lib.hid (Hm1.out.nxt hb)
    have HB2 := Lib.hid (below_nx HB1.out hb)
    clear hb
    clear a0 x0 x1 x2 x3 y0 y1 y2 y3 m0 m1 m2 m3 m4
    obtain ⟨a0, _⟩ := cells1g Ha2.out
    obtain ⟨x0, x1, x2, x3⟩ := cells4w Hx2.out
    obtain ⟨y0, y1, y2, y3⟩ := cells4w Hy2.out
    obtain ⟨m0, m1, m2, m3, m4⟩ := cells5 Hm2.out
    go_wp2_with fail
    refine (HG.out _).mono ?_
    rintro e w3 ⟨rfl, hb⟩
    have Ha3 := Lib.hid (Ha2.out.nxt hb)
    have Hx3 := Lib.hid (Hx2.out.nxt hb)
    have Hy3 := Lib.hid (Hy2.out.nxt hb)
    have Hm3 := Lib.hid (Hm2.out.nxt hb)
    have HB3 := Lib.hid (below_nx HB2.out hb)
    clear hb
    clear a0 x0 x1 x2 x3 y0 y1 y2 y3 m0 m1 m2 m3 m4
    obtain ⟨a0, _⟩ := cells1g Ha3.out
    obtain ⟨x0, x1, x2, x3⟩ := cells4w Hx3.out
    obtain ⟨y0, y1, y2, y3⟩ := cells4w Hy3.out
    obtain ⟨m0, m1, m2, m3, m4⟩ := cells5 Hm3.out
    go_wp2_with fail
    refine (HMx.out _ HB3.out).mono ?_
    rintro e w4 ⟨rfl, hb⟩
    have Ha4 := Lib.hid (Ha3.out.nxt hb)
    have Hx4 := Lib.hid (Hx3.out.nxt hb)
    have Hy4 := Lib.hid (Hy3.out.nxt hb)
    have Hm4 := Lib.hid (Hm3.out.nxt hb)
    have HB4 := Lib.hid (below_nx HB3.out hb)
    clear hb
    clear a0 x0 x1 x2 x3 y0 y1 y2 y3 m0 m1 m2 m3 m4
    obtain ⟨a0, _⟩ := cells1g Ha4.out
    obtain ⟨x0, x1, x2, x3⟩ := cells4w Hx4.out
    obtain ⟨y0, y1, y2, y3⟩ := cells4w Hy4.out
    obtain ⟨m0, m1, m2, m3, m4⟩ := cells5 Hm4.out
    go_wp2_with fail
    go_ret
    exact ⟨rfl, HB4.out⟩

/-- What Ger makes of a number: a times y's, times x's, is added. -/
def GerR (a : Nat) (lx : List Nat) (ox ix : Nat) (ly : List Nat) (oy iy : Nat) (l : List Nat) (o L : Nat) (i j r : Nat) : Prop :=
  ∃ t p, Comes .mul a (ly.getD (oy + j * iy) 0) t ∧ Comes .mul t (lx.getD (ox + i * ix) 0) p ∧ Comes .add (l.getD (o + i + j * L) 0) p r
set_option maxHeartbeats 2000000 in
theorem grger_ok (a gx cx nx : Nat) (lx : List Nat) (ox ix gy cy ny : Nat) (ly : List Nat) (oy iy g c n : Nat) (l : List Nat) (o R C L : Nat) (w : World) (hOx : Own w gx lx) (hOy : Own w gy ly) (hO : Own w g l) (hlx : lx.length = nx) (hly : ly.length = ny) (hl : l.length = n)
    (hnx : nx < 1048576) (hny : ny < 1048576) (hn : n < 1048576) (hRb : R < 1048576) (hCb : C < 1048576) (hox : I64 ox) (hix : I64 ix) (hoy : I64 oy) (hiy : I64 iy) (ho : I64 o) (hLI : I64 L) (hix1 : 1 ≤ ix) (hxr : R = 0 ∨ ox + (R - 1) * ix < nx) (hiy1 : 1 ≤ iy) (hyr : C = 0 ∨ oy + (C - 1) * iy < ny)
    (hL1 : 1 ≤ L) (hRL : R ≤ L) (hmr : R = 0 ∨ C = 0 ∨ o + (C - 1) * L + (R - 1) < n) (hdx : g = gx → ∀ i, i < R → ∀ j, j < C → ∀ q, q < R → o + i + j * L ≠ ox + q * ix) (hdy : g = gy → ∀ i, i < R → ∀ j, j < C → ∀ q, q < C → o + i + j * L ≠ oy + q * iy)
    (hx : ∀ W, Below w.heap.size w W → Calls Try.prog 48 #[vec (some ⟨gx, 0, none⟩) nx cx ox R ix, mat (some ⟨g, 0, none⟩) n c o R C L] W fun e w' => e = .returned (.bool false) ∧ Below W.heap.size W w')
    (hy : ∀ W, Below w.heap.size w W → Calls Try.prog 48 #[vec (some ⟨gy, 0, none⟩) ny cy oy C iy, mat (some ⟨g, 0, none⟩) n c o R C L] W fun e w' => e = .returned (.bool false) ∧ Below W.heap.size W w') :
    Calls Try.prog 17 #[.float .f64 a, vec (some ⟨gx, 0, none⟩) nx cx ox R ix, vec (some ⟨gy, 0, none⟩) ny cy oy C iy, mat (some ⟨g, 0, none⟩) n c o R C L] w fun e w' => e = .returned (.int .i64 0) ∧ ∃ l', Own w' g l' ∧ Imr l o R C L (GerR a lx ox ix ly oy iy l o L) l' ∧ Chg [g] w w' := by
  have HRx := Lib.hid (fun W => right_any (some ⟨gx, 0, none⟩) nx cx ox R ix W (by omega) hox (by unfold I64; omega) hix)
  have HRy := Lib.hid (fun W => right_any (some ⟨gy, 0, none⟩) ny cy oy C iy W (by omega) hoy (by unfold I64; omega) hiy)
  have HG := Lib.hid (fun W => good_any (some ⟨g, 0, none⟩) n c o R C L W (by omega) ho (by unfold I64; omega) (by unfold I64; omega) hLI)
  rw [vec_right hix1 hxr] at HRx
  rw [vec_right hiy1 hyr] at HRy
  rw [mat_right hL1 hRL hmr] at HG
  have HMx := Lib.hid hx
  have HMy := Lib.hid hy
  have HPx := Lib.hid (fun q (h : q < R) => show ox + q * ix < nx from by
    rcases hxr with h0 | h0
    · omega
    · exact place_lt h0 h)
  have HPy := Lib.hid (fun q (h : q < C) => show oy + q * iy < ny from by
    rcases hyr with h0 | h0
    · omega
    · exact place_lt h0 h)
  have HEa := Lib.hid (fun W (pa px py : Nat) (hb : Below w.heap.size w W) (hz : w.heap.size ≤ pa) (hz2 : w.heap.size ≤ px) (hz3 : w.heap.size ≤ py) (hA : W.cell? ⟨pa, 0, none⟩ = some (.float .f64 a)) (hX : Blk W px 32 #[.slice (some ⟨gx, 0, none⟩) nx cx, .int .i64 ox, .int .i64 R, .int .i64 ix]) (hY : Blk W py 32 #[.slice (some ⟨gy, 0, none⟩) ny cy, .int .i64 oy, .int .i64 C, .int .i64 iy]) =>
    greach_any 50 #[.pointer (some ⟨pa, 0, none⟩), .pointer (some ⟨py, 0, none⟩), .pointer (some ⟨px, 0, none⟩)]
      (fun W => W.cell? ⟨pa, 0, none⟩ = some (.float .f64 a) ∧ Blk W px 32 #[.slice (some ⟨gx, 0, none⟩) nx cx, .int .i64 ox, .int .i64 R, .int .i64 ix] ∧ Blk W py 32 #[.slice (some ⟨gy, 0, none⟩) ny cy, .int .i64 oy, .int .i64 C, .int .i64 iy] ∧ (∀ q, q < R → W.cell? ⟨gx, 0 + (ox + q * ix), none⟩ = some (.float .f64 (lx.getD (ox + q * ix) 0))) ∧ ∀ q, q < C → W.cell? ⟨gy, 0 + (oy + q * iy), none⟩ = some (.float .f64 (ly.getD (oy + q * iy) 0)))
      (GerR a lx ox ix ly oy iy l o L) g n c l o R C L W (fun args W => grger_enters args W) (hO.nxt hb) hl hn hRL hmr hRb hCb
      ⟨hA, hX, hY, fun q hq => by
        have h1 := HPx.out q hq
        have h2 : ox + q * ix < lx.length := by omega
        rw [Nat.zero_add, getD_of_lt h2]
        exact (hOx.nxt hb).get _ h2, fun q hq => by
        have h1 := HPy.out q hq
        have h2 : oy + q * iy < ly.length := by omega
        rw [Nat.zero_add, getD_of_lt h2]
        exact (hOy.nxt hb).get _ h2⟩
      (fun W W' h hb' => ⟨cell_below h.1 hb', h.2.1.nxt hb', h.2.2.1.nxt hb', fun q hq => cell_below (h.2.2.2.1 q hq) hb', fun q hq => cell_below (h.2.2.2.2 q hq) hb'⟩)
      (fun W i j v hi hj _ h => ⟨(cell_set (by have := hO.lt; omega) _).trans h.1, h.2.1.other (by show px ≠ g; have := hO.lt; omega) _, h.2.2.1.other (by show py ≠ g; have := hO.lt; omega) _, fun q hq => by
        by_cases e : g = gx
        · refine (World.cell?_setCell_other W _ _ _ ?_).trans (h.2.2.2.1 q hq)
          intro e2
          have := hdx e i hi j hj q hq
          injection e2 with _ e3
          omega
        · exact (cell_set (fun e2 => e e2.symm) _).trans (h.2.2.2.1 q hq), fun q hq => by
        by_cases e : g = gy
        · refine (World.cell?_setCell_other W _ _ _ ?_).trans (h.2.2.2.2 q hq)
          intro e2
          have := hdy e i hi j hj q hq
          injection e2 with _ e3
          omega
        · exact (cell_set (fun e2 => e e2.symm) _).trans (h.2.2.2.2 q hq)⟩)
      (fun W i j hi hj h => by
        have := grger_one a (lx.getD (ox + i * ix) 0) (ly.getD (oy + j * iy) 0) (l.getD (o + i + j * L) 0) i j pa px py gx 0 nx cx ox R ix gy 0 ny cy oy C iy W h.1 h.2.1 h.2.2.1 (h.2.2.2.1 i hi) (h.2.2.2.2 j hj) (HPx.out i hi) (HPy.out j hj) hnx hny
        exact this.mono fun e w' ⟨t, p, r, e1, e2, e3, e4, e5⟩ => ⟨r, e1, ⟨t, p, e2, e3, e4⟩, e5⟩))
  clear hOx hOy hO hlx hly hl hnx hny hn hRb hCb hox hix hoy hiy ho hLI hix1 hxr hiy1 hyr hL1 hRL hmr hdx hdy hx hy HPx HPy
  have t1 : ((R : Int) == (R : Int)) = true := by simp
  have t1' : ((R : Int) != (R : Int)) = false := by simp
  have t2 : ((C : Int) == (C : Int)) = true := by simp
  have t2' : ((C : Int) != (C : Int)) = false := by simp
  unfold mat vec at *
  go_enter Try.func17, Try.ntmps17
  have Ha0 := Lib.hid ((((Blk.new w 28 #[.float .f64 a]).alloc (.cells #[.slice (some ⟨gx, 0, none⟩) nx cx, .int .i64 ox, .int .i64 R, .int .i64 ix] 32)).alloc (.cells #[.slice (some ⟨gy, 0, none⟩) ny cy, .int .i64 oy, .int .i64 C, .int .i64 iy] 32)).alloc (.cells #[.slice (some ⟨g, 0, none⟩) n c, .int .i64 o, .int .i64 R, .int .i64 C, .int .i64 L] 26))
  have Hx0 := Lib.hid (((Blk.new_ (w.alloc (.cells #[.float .f64 a] 28)) 32 #[.slice (some ⟨gx, 0, none⟩) nx cx, .int .i64 ox, .int .i64 R, .int .i64 ix] (w.heap.size + 1) (by simp)).alloc (.cells #[.slice (some ⟨gy, 0, none⟩) ny cy, .int .i64 oy, .int .i64 C, .int .i64 iy] 32)).alloc (.cells #[.slice (some ⟨g, 0, none⟩) n c, .int .i64 o, .int .i64 R, .int .i64 C, .int .i64 L] 26))
  have Hy0 := Lib.hid ((Blk.new_ ((w.alloc (.cells #[.float .f64 a] 28)).alloc (.cells #[.slice (some ⟨gx, 0, none⟩) nx cx, .int .i64 ox, .int .i64 R, .int .i64 ix] 32)) 32 #[.slice (some ⟨gy, 0, none⟩) ny cy, .int .i64 oy, .int .i64 C, .int .i64 iy] (w.heap.size + 1 + 1) (by simp)).alloc (.cells #[.slice (some ⟨g, 0, none⟩) n c, .int .i64 o, .int .i64 R, .int .i64 C, .int .i64 L] 26))
  have Hm0 := Lib.hid (Blk.new_ (((w.alloc (.cells #[.float .f64 a] 28)).alloc (.cells #[.slice (some ⟨gx, 0, none⟩) nx cx, .int .i64 ox, .int .i64 R, .int .i64 ix] 32)).alloc (.cells #[.slice (some ⟨gy, 0, none⟩) ny cy, .int .i64 oy, .int .i64 C, .int .i64 iy] 32)) 26 #[.slice (some ⟨g, 0, none⟩) n c, .int .i64 o, .int .i64 R, .int .i64 C, .int .i64 L] (w.heap.size + 1 + 1 + 1) (by simp))
  have HB0 := Lib.hid (((((Below.refl w.heap.size w).alloc (Nat.le_refl _) (.cells #[.float .f64 a] 28)).alloc (by simp) (.cells #[.slice (some ⟨gx, 0, none⟩) nx cx, .int .i64 ox, .int .i64 R, .int .i64 ix] 32)).alloc (by simp; omega) (.cells #[.slice (some ⟨gy, 0, none⟩) ny cy, .int .i64 oy, .int .i64 C, .int .i64 iy] 32)).alloc (by simp; omega) (.cells #[.slice (some ⟨g, 0, none⟩) n c, .int .i64 o, .int .i64 R, .int .i64 C, .int .i64 L] 26))
  obtain ⟨a0, _⟩ := cells1g Ha0.out
  obtain ⟨x0, x1, x2, x3⟩ := cells4w Hx0.out
  obtain ⟨y0, y1, y2, y3⟩ := cells4w Hy0.out
  obtain ⟨m0, m1, m2, m3, m4⟩ := cells5 Hm0.out
  go_wp2_with fail
  refine (HRx.out _).mono ?_
  rintro e w1 ⟨rfl, hb⟩
  have Ha1 := Lib.hid (Ha0.out.nxt hb)
  have Hx1 := Lib.hid (Hx0.out.nxt hb)
  have Hy1 := Lib.hid (Hy0.out.nxt hb)
  have Hm1 := Lib.hid (Hm0.out.nxt hb)
  have HB1 := Lib.hid (below_nx HB0.out hb)
  clear hb
  clear a0 x0 x1 x2 x3 y0 y1 y2 y3 m0 m1 m2 m3 m4
  obtain ⟨a0, _⟩ := cells1g Ha1.out
  obtain ⟨x0, x1, x2, x3⟩ := cells4w Hx1.out
  obtain ⟨y0, y1, y2, y3⟩ := cells4w Hy1.out
  obtain ⟨m0, m1, m2, m3, m4⟩ := cells5 Hm1.out
  go_wp2_with fail
  refine (HRy.out _).mono ?_
  rintro e w2 ⟨rfl, hb⟩
  have Ha2 := Lib.hid (Ha1.out.nxt hb)
  have Hx2 := Lib.hid (Hx1.out.nxt hb)
  have Hy2 := Lib.hid (Hy1.out.nxt hb)
  have Hm2 := Lib.hid (Hm1.out.nxt hb)
  have HB2 := Lib.hid (below_nx HB1.out hb)
  clear hb
  clear a0 x0 x1 x2 x3 y0 y1 y2 y3 m0 m1 m2 m3 m4
  obtain ⟨a0, _⟩ := cells1g Ha2.out
  obtain ⟨x0, x1, x2, x3⟩ := cells4w Hx2.out
  obtain ⟨y0, y1, y2, y3⟩ := cells4w Hy2.out
  obtain ⟨m0, m1, m2, m3, m4⟩ := cells5 Hm2.out
  go_wp2_with fail
  refine (HG.out _).mono ?_
  rintro e w3 ⟨rfl, hb⟩
  have Ha3 := Lib.hid (Ha2.out.nxt hb)
  have Hx3 := Lib.hid (Hx2.out.nxt hb)
  have Hy3 := Lib.hid (Hy2.out.nxt hb)
  have Hm3 := Lib.hid (Hm2.out.nxt hb)
  have HB3 := Lib.hid (below_nx HB2.out hb)
  clear hb
  clear a0 x0 x1 x2 x3 y0 y1 y2 y3 m0 m1 m2 m3 m4
  obtain ⟨a0, _⟩ := cells1g Ha3.out
  obtain ⟨x0, x1, x2, x3⟩ := cells4w Hx3.out
  obtain ⟨y0, y1, y2, y3⟩ := cells4w Hy3.out
  obtain ⟨m0, m1, m2, m3, m4⟩ := cells5 Hm3.out
  go_wp2_with fail
  refine (HMx.out _ HB3.out).mono ?_
  rintro e w4 ⟨rfl, hb⟩
  have Ha4 := Lib.hid (Ha3.out.nxt hb)
  have Hx4 := Lib.hid (Hx3.out.nxt hb)
  have Hy4 := Lib.hid (Hy3.out.nxt hb)
  have Hm4 := Lib.hid (Hm3.out.nxt hb)
  have HB4 := Lib.hid (below_nx HB3.out hb)
  clear hb
  clear a0 x0 x1 x2 x3 y0 y1 y2 y3 m0 m1 m2 m3 m4
  obtain ⟨a0, _⟩ := cells1g Ha4.out
  obtain ⟨x0, x1, x2, x3⟩ := cells4w Hx4.out
  obtain ⟨y0, y1, y2, y3⟩ := cells4w Hy4.out
  obtain ⟨m0, m1, m2, m3, m4⟩ := cells5 Hm4.out
  go_wp2_with fail
  refine (HMy.out _ HB4.out).mono ?_
  rintro e w5 ⟨rfl, hb⟩
  have Ha5 := Lib.hid (Ha4.out.nxt hb)
  have Hx5 := Lib.hid (Hx4.out.nxt hb)
  have Hy5 := Lib.hid (Hy4.out.nxt hb)
  have Hm5 := Lib.hid (Hm4.out.nxt hb)
  have HB5 := Lib.hid (below_nx HB4.out hb)
  clear hb
  clear a0 x0 x1 x2 x3 y0 y1 y2 y3 m0 m1 m2 m3 m4
  obtain ⟨a0, _⟩ := cells1g Ha5.out
  obtain ⟨x0, x1, x2, x3⟩ := cells4w Hx5.out
  obtain ⟨y0, y1, y2, y3⟩ := cells4w Hy5.out
  obtain ⟨m0, m1, m2, m3, m4⟩ := cells5 Hm5.out
  go_wp2_with fail
  refine (HEa.out _ _ _ _ HB5.out (Nat.le_refl _) (by omega) (by omega) a0 Hx5.out Hy5.out).mono ?_
  rintro e w6 ⟨rfl, l', hm1, hm2, _, hm3⟩
  have HM := Lib.hid (And.intro hm1 (And.intro hm2 hm3))
  clear hm1 hm2 hm3
  clear a0 x0 x1 x2 x3 y0 y1 y2 y3 m0 m1 m2 m3 m4
  go_wp2_with fail
  go_ret
  exact ⟨rfl, l', HM.out.1, HM.out.2.1, (Chg.of_below HB5.out).trans HM.out.2.2⟩
end Go.Proofs.Ytmjaakngiilmdaa
