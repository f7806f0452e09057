/-
Ger: each number of a matrix goes through what is handed in. Conditions: the matrix is right, its list the call's own, or it has no numbers.
-/
import Derived.Test.YtelpdbkkefpjhaaWKf
import Derived.Shelf.Abstract
set_option linter.unusedVariables false
set_option linter.unusedSimpArgs false
set_option linter.unnecessarySimpa false
namespace Go.Proofs.Ytelpdbkkefpjhaa
open Go.RowKit
attribute [local go_sem ↓] Go.wp_at_zero Go.wp_at_succ

/-- One number has been stored. -/
def StoredG (g P : Nat) (R : Nat → Prop) (wr W : World) : Prop := ∃ W' r, Below wr.heap.size wr W' ∧ W = W'.setCell ⟨g, P, none⟩ (.float .f64 r) ∧ R r
theorem frz_belowg {W W' : World} {b o : Nat} (h : W.frozen? ⟨b, o, none⟩ = false) (hlt : b < W.heap.size) (hb : Below W.heap.size W W') : W'.frozen? ⟨b, o, none⟩ = false := (hb.frozen (p := ⟨b, o, none⟩) hlt).trans h
/-- The numbers of the first columns, and the next column's first, have become what was asked. -/
def Pcl (l : List Nat) (o R C L : Nat) (P : Nat → Nat → Nat → Prop) (j i : Nat) (l' : List Nat) : Prop :=
  l'.length = l.length ∧ (∀ a, a < R → ∀ b, b < C → if b < j ∨ (b = j ∧ a < i) then P a b (l'.getD (o + a + b * L) 0) else l'.getD (o + a + b * L) 0 = l.getD (o + a + b * L) 0) ∧ ∀ x, (∀ a, a < R → ∀ b, b < C → x ≠ o + a + b * L) → l'.getD x 0 = l.getD x 0
/-- All of them have. -/
def Imr (l : List Nat) (o R C L : Nat) (P : Nat → Nat → Nat → Prop) (l' : List Nat) : Prop :=
  l'.length = l.length ∧ (∀ a, a < R → ∀ b, b < C → P a b (l'.getD (o + a + b * L) 0)) ∧ ∀ x, (∀ a, a < R → ∀ b, b < C → x ≠ o + a + b * L) → l'.getD x 0 = l.getD x 0
theorem Pcl.zero (l : List Nat) (o R C L : Nat) (P : Nat → Nat → Nat → Prop) : Pcl l o R C L P 0 0 l := ⟨rfl, fun a _ b _ => by rw [if_neg (by omega)], fun _ _ => rfl⟩
theorem Pcl.next {l l' : List Nat} {o R C L : Nat} {P : Nat → Nat → Nat → Prop} {j : Nat} (h : Pcl l o R C L P j R l') : Pcl l o R C L P (j + 1) 0 l' :=
  ⟨h.1, fun a ha b hb => by
    have := h.2.1 a ha b hb
    by_cases e : b < j ∨ (b = j ∧ a < R)
    · rw [if_pos e] at this; rw [if_pos (by omega)]; exact this
    · rw [if_neg e] at this; rw [if_neg (by omega)]; exact this, h.2.2⟩
theorem Pcl.done {l l' : List Nat} {o R C L : Nat} {P : Nat → Nat → Nat → Prop} (h : Pcl l o R C L P C 0 l') : Imr l o R C L P l' :=
  ⟨h.1, fun a ha b hb => by have := h.2.1 a ha b hb; rw [if_pos (.inl hb)] at this; exact this, h.2.2⟩
theorem Pcl.was {l l' : List Nat} {o R C L : Nat} {P : Nat → Nat → Nat → Prop} {i j : Nat} (h : Pcl l o R C L P j i l') (hi : i < R) (hj : j < C) : l'.getD (o + i + j * L) 0 = l.getD (o + i + j * L) 0 := by
  have := h.2.1 i hi j hj
  rwa [if_neg (by omega)] at this
theorem Pcl.step {l l' : List Nat} {o R C L : Nat} {P : Nat → Nat → Nat → Prop} {i j r : Nat} (h : Pcl l o R C L P j i l') (hR : R ≤ L) (hi : i < R) (hj : j < C) (hP : o + i + j * L < l.length) (hr : P i j r) : Pcl l o R C L P j (i + 1) (l'.set (o + i + j * L) r) := by
  refine ⟨by rw [List.length_set]; exact h.1, fun a ha b hb => ?_, fun x hx => ?_⟩
  · by_cases e : a = i ∧ b = j
    · obtain ⟨rfl, rfl⟩ := e
      rw [getD_set_self (by rw [h.1]; exact hP), if_pos (by omega)]
      exact hr
    · rw [getD_set_ne _ (fun e2 => e (by
        have := spots_inj (L := L) (a := i) (b := j) (a' := a) (b' := b) (by omega) (by omega) (by omega)
        exact ⟨this.1.symm, this.2.symm⟩))]
      have := h.2.1 a ha b hb
      by_cases e1 : b < j ∨ (b = j ∧ a < i)
      · rw [if_pos e1] at this; rw [if_pos (by omega)]; exact this
      · rw [if_neg e1] at this; rw [if_neg (by omega)]; exact this
  · rw [getD_set_ne _ (fun e => hx i hi j hj e.symm), h.2.2 x hx]
/-- Each number has become what was asked. -/
def Eachm (I : World → Prop) (P : Nat → Nat → Nat → Prop) (g : Nat) (l : List Nat) (o R C L : Nat) (w : World) (e : Ending) (w' : World) : Prop :=
  e = .returned (.tuple #[]) ∧ ∃ l' : List Nat, Own w' g l' ∧ Imr l o R C L P l' ∧ I w' ∧ Chg [g] w w'
theorem gr_lt {o R C L n i j : Nat} (hr : R = 0 ∨ C = 0 ∨ o + (C - 1) * L + (R - 1) < n) (hi : i < R) (hj : j < C) : o + i + j * L < n := by
  have h1 : j * L ≤ (C - 1) * L := Nat.mul_le_mul_right _ (by omega)
  omega
/-- The place, in plain numbers. -/
theorem gr_facts {o i j L n : Nat} (h : o + i + j * L < n) (hn : n < 1048576) :
    ∃ u m P : Nat, o + i + j * L = P ∧ Hid (wrap64 ((o : Int) + (i : Int)) = (u : Int) ∧ wrap64 ((j : Int) * (L : Int)) = (m : Int) ∧ wrap64 ((u : Int) + (m : Int)) = (P : Int) ∧ P < n) := by
  refine ⟨o + i, j * L, _, rfl, Lib.hid ⟨?_, ?_, ?_, h⟩⟩
  · have e : (o : Int) + (i : Int) = ((o + i : Nat) : Int) := by simp
    rw [e]; exact wrap_id (by unfold I64; omega)
  · have e : (j : Int) * (L : Int) = ((j * L : Nat) : Int) := by simp
    rw [e]; exact wrap_id (by unfold I64; omega)
  · have e : ((o + i : Nat) : Int) + ((j * L : Nat) : Int) = ((o + i + j * L : Nat) : Int) := by simp
    rw [e]; exact wrap_id (by unfold I64; omega)

set_option maxRecDepth 100000 in
set_option maxHeartbeats 1000000 in
theorem greach_any (F : FuncId) (caps : Array Value) (I : World → Prop) (Rel : Nat → Nat → Nat → Prop) (g n c : Nat) (l : List Nat) (o R C L : Nat) (w : World)
    (hF : ∀ args W, (callFunc F args).run Try.prog W = .ok (.enter F args) W) (hO : Own w g l) (hl : l.length = n) (hn : n < 1048576) (hRL : R ≤ L) (hr : R = 0 ∨ C = 0 ∨ o + (C - 1) * L + (R - 1) < n) (hRb : R < 1048576) (hCb : C < 1048576) (hI : I w)
    (hIb : ∀ W W', I W → Below W.heap.size W W' → I W') (hIs : ∀ W i j v, i < R → j < C → Rel i j v → I W → I (W.setCell ⟨g, o + i + j * L, none⟩ (.float .f64 v)))
    (hC : ∀ W i j, i < R → j < C → I W → Calls Try.prog F (#[.int .i64 (i : Int), .int .i64 (j : Int), .float .f64 (l.getD (o + i + j * L) 0)] ++ caps) W fun e w' => ∃ r, e = .returned (.float .f64 r) ∧ Rel i j r ∧ Below W.heap.size W w') :
    Calls Try.prog 59 #[mat (some ⟨g, 0, none⟩) n c o R C L, .func (.func F) #[] caps] w (Eachm I Rel g l o R C L w) := by
  have HRn := Lib.hid (fun i j (hi : i < R) (hj : j < C) => gr_lt hr hi hj)
  have HF := Lib.hid hF
  have HO := Lib.hid hO
  have Hl := Lib.hid hl
  have HI0 := Lib.hid hI
  have HIb := Lib.hid hIb
  have HIs := Lib.hid hIs
  have HCa := Lib.hid hC
  have HRL := Lib.hid hRL
  clear hF hO hl hI hIb hIs hC hr hRL
  unfold mat at *
  go_enter Try.func59, Try.ntmps59
  have HZ := Lib.hid (Blk.new w 24 #[.slice (some ⟨g, 0, none⟩) n c, .int .i64 o, .int .i64 R, .int .i64 C, .int .i64 L])
  have hbl0 : Below w.heap.size w _ := (Below.refl w.heap.size w).alloc (Nat.le_refl _) (.cells #[.slice (some ⟨g, 0, none⟩) n c, .int .i64 o, .int .i64 R, .int .i64 C, .int .i64 L] 24)
  have HO1 := Lib.hid (HO.out.nxt hbl0)
  have HI1 := Lib.hid (HIb.out _ _ HI0.out hbl0)
  have HC1 := Lib.hid (Chg.of_below (G := [g]) hbl0)
  have Hgz := Lib.hid (show g < w.heap.size from HO.out.lt)
  clear hbl0
  go_wp2_with fail
  generalize hz : w.heap.size = z at *
  have Hz := Lib.hid hz
  clear hz
  go_loopw [9] (fun a wr => ∃ (b1 : Nat) (l1 : List Nat), b1 ≤ C ∧ a = .int .i64 b1 ∧ Hid (Pcl l o R C L Rel b1 0 l1 ∧ Own wr g l1 ∧ I wr ∧ Chg [g] w wr ∧ Blk wr z 24 #[.slice (some ⟨g, 0, none⟩) n c, .int .i64 o, .int .i64 R, .int .i64 C, .int .i64 L])) (fun a _ => C - (intOf a).toNat)
  case atStart => exact ⟨0, l, Nat.zero_le _, rfl, Lib.hid ⟨Pcl.zero _ _ _ _ _ _, HO1.out, HI1.out, HC1.out, HZ.out⟩⟩
  case round =>
    obtain ⟨b1, l1, hbC, rfl, HH⟩ := hrel
    obtain ⟨c0, c1, c2, c3, c4⟩ := cells5 HH.out.2.2.2.2
    by_cases hltb : b1 < C
    · have hbi : (b1 : Int) < (C : Int) := by omega
      have hb1 : b1 + 1 ≤ 1048576 := by omega
      go_wp2_with fail
      clear c0 c1 c2 c3 c4
      go_loopw [14] (fun a wr => ∃ (a1 : Nat) (l1 : List Nat), a1 ≤ R ∧ a = .int .i64 a1 ∧ Hid (Pcl l o R C L Rel b1 a1 l1 ∧ Own wr g l1 ∧ I wr ∧ Chg [g] w wr ∧ Blk wr z 24 #[.slice (some ⟨g, 0, none⟩) n c, .int .i64 o, .int .i64 R, .int .i64 C, .int .i64 L])) (fun a _ => R - (intOf a).toNat)
      case atStart => exact ⟨0, l1, Nat.zero_le _, rfl, HH⟩
      case round =>
        obtain ⟨a1, l1, haR, rfl, HH⟩ := hrel
        have HZ2 := Lib.hid HH.out.2.2.2.2
        obtain ⟨c0, c1, c2, c3, c4⟩ := cells5 HZ2.out
        by_cases hlta : a1 < R
        · have hP := HRn.out a1 b1 hlta hltb
          have HC0 := Lib.hid (fun W (h : I W) => HCa.out W a1 b1 hlta hltb h)
          have hyv := HH.out.1.was hlta hltb
          have hPl : o + a1 + b1 * L < l1.length := by rw [HH.out.1.1, Hl.out]; exact hP
          have hce := HH.out.2.1.get _ hPl
          have hfz := HH.out.2.1.frozen (o + a1 + b1 * L)
          rw [← getD_of_lt hPl, hyv] at hce
          have HDone := Lib.hid (show ∀ r, Rel a1 b1 r → ∀ W', Below wr.heap.size wr W' → Hid (Pcl l o R C L Rel b1 (a1 + 1) (l1.set (o + a1 + b1 * L) r) ∧ Own (W'.setCell ⟨g, o + a1 + b1 * L, none⟩ (.float .f64 r)) g (l1.set (o + a1 + b1 * L) r) ∧ I (W'.setCell ⟨g, o + a1 + b1 * L, none⟩ (.float .f64 r)) ∧ Chg [g] w (W'.setCell ⟨g, o + a1 + b1 * L, none⟩ (.float .f64 r)) ∧ Blk (W'.setCell ⟨g, o + a1 + b1 * L, none⟩ (.float .f64 r)) z 24 #[.slice (some ⟨g, 0, none⟩) n c, .int .i64 o, .int .i64 R, .int .i64 C, .int .i64 L]) from fun r hr W' hb => Lib.hid (by
            obtain ⟨e1, e3, e4, e5, e6⟩ := HH.out
            exact ⟨e1.step HRL.out hlta hltb (by rw [Hl.out]; exact hP) hr, (e3.nxt hb).set_ _ _ hPl, HIs.out _ _ _ _ hlta hltb hr (HIb.out _ _ e4 hb), (e5.nxt hb).set_in (by simp) _, (e6.nxt hb).other (by show z ≠ g; have := Hgz.out; omega) _⟩))
          obtain ⟨u, m, P, hPd, HW⟩ := gr_facts hP (by omega)
          obtain ⟨y, hy⟩ : ∃ y, l.getD (o + a1 + b1 * L) 0 = y := ⟨_, rfl⟩
          rw [hy] at HC0 hce
          rw [hPd] at hce hfz HDone
          have HI := Lib.hid HH.out.2.2.1
          have HCe := Lib.hid hce
          have HFz := Lib.hid hfz
          have hlt0 : g < wr.heap.size := block_lt hce
          have hai : (a1 : Int) < (R : Int) := by omega
          have ha1 : a1 + 1 ≤ 1048576 := by omega
          clear hyv hPl hy hPd hce hfz hP
          obtain ⟨w1', w2', w3', b2⟩ := HW.out
          go_wp2_with fail
          refine wp_region_inv [26, 27, 28, 29, 30, 31, 32, 33, 34, 35, 36, 37, 38] (fun d s W => (d 0 = true → s 26 = .pointer (some ⟨z, 0, none⟩)) ∧ (d 1 = true → s 27 = .slice (some ⟨g, 0, none⟩) n c) ∧ (d 2 = true → s 28 = .int .i64 (P : Int)) ∧ (d 3 = true → s 29 = .func (.func F) #[] caps) ∧ (d 4 = true → s 30 = .int .i64 (a1 : Int)) ∧ (d 5 = true → s 31 = .int .i64 (b1 : Int)) ∧ (d 6 = true → s 32 = .pointer (some ⟨z, 0, none⟩)) ∧ (d 7 = true → s 33 = .slice (some ⟨g, 0, none⟩) n c) ∧ (d 8 = true → s 34 = .int .i64 (P : Int)) ∧ (d 9 = true → s 35 = .pointer (some ⟨g, P, none⟩)) ∧ (d 10 = true → s 36 = .float .f64 y) ∧ (d 11 = true → ∃ r, s 37 = .float .f64 r ∧ Rel a1 b1 r) ∧ (d 12 = true → s 38 = .pointer (some ⟨g, P, none⟩)) ∧ (d 1 = true → d 0 = true) ∧ (d 7 = true → d 6 = true) ∧ (d 9 = true → d 6 = true ∧ d 7 = true ∧ d 8 = true) ∧ (d 10 = true → d 6 = true ∧ d 7 = true ∧ d 8 = true ∧ d 9 = true) ∧ (d 11 = true → d 3 = true ∧ d 4 = true ∧ d 5 = true ∧ d 6 = true ∧ d 7 = true ∧ d 8 = true ∧ d 9 = true ∧ d 10 = true) ∧ (d 12 = true → d 0 = true ∧ d 1 = true ∧ d 2 = true) ∧ (d 13 = true → d 0 = true ∧ d 1 = true ∧ d 2 = true ∧ d 3 = true ∧ d 4 = true ∧ d 5 = true ∧ d 6 = true ∧ d 7 = true ∧ d 8 = true ∧ d 9 = true ∧ d 10 = true ∧ d 11 = true ∧ d 12 = true) ∧ ((d 13 = false → Below wr.heap.size wr W) ∧ (d 13 = true → StoredG g P (Rel a1 b1) wr W)))
            rfl (by kernel_rfl) ?_ ?_ ?_
          · exact ⟨by simp, by simp, by simp, by simp, by simp, by simp, by simp, by simp, by simp, by simp, by simp, by simp, by simp, by simp, by simp, by simp, by simp, by simp, by simp, by simp, ⟨fun _ => (Below.refl _ _).drew, fun h => by simp at h⟩⟩
          · refine ⟨?_, ?_, ?_, ?_, ?_, ?_, ?_, ?_, ?_, ?_, ?_, ?_, ?_, ?_, trivial⟩
            all_goals
              intro d s W hJ hfr hd hdep
              simp only [List.mem_cons, forall_eq_or_imp, List.not_mem_nil, false_implies, implies_true, and_true, Region.binds] at hdep
              have f1 := hfr 1 (by decide)
              have f2 := hfr 2 (by decide)
              have f4 := hfr 4 (by decide)
              have f5 := hfr 5 (by decide)
              have f6 := hfr 6 (by decide)
              simp at f1 f2 f4 f5 f6 hdep
              obtain ⟨h0, h1, h2, h3, h4, h5, h6, h7, h8, h9, h10, h11, h12, x0, x1, x2, x3, x4, x5, x6, hT⟩ := hJ
              have hT0 := hT
            · have hl : d 13 = false := by
                cases h : d 13
                · rfl
                · have := x6 h; simp [hd] at this
              replace hT := hT.1 hl
              unfold OpSteps
              simp [go_sem, evS, f2]
              exact ⟨fun _ => by simp [sput], fun h => by simpa [sput] using h1 (by simpa [did] using h), fun h => by simpa [sput] using h2 (by simpa [did] using h), fun h => by simpa [sput] using h3 (by simpa [did] using h), fun h => by simpa [sput] using h4 (by simpa [did] using h), fun h => by simpa [sput] using h5 (by simpa [did] using h), fun h => by simpa [sput] using h6 (by simpa [did] using h), fun h => by simpa [sput] using h7 (by simpa [did] using h), fun h => by simpa [sput] using h8 (by simpa [did] using h), fun h => by simpa [sput] using h9 (by simpa [did] using h), fun h => by simpa [sput] using h10 (by simpa [did] using h), fun h => by simpa [sput] using h11 (by simpa [did] using h), fun h => by simpa [sput] using h12 (by simpa [did] using h), fun h => by have := x0 (by simpa [did] using h); simp [did, this], fun h => by have := x1 (by simpa [did] using h); simp [did, this], fun h => by have := x2 (by simpa [did] using h); simp [did, this], fun h => by have := x3 (by simpa [did] using h); simp [did, this], fun h => by have := x4 (by simpa [did] using h); simp [did, this], fun h => by have := x5 (by simpa [did] using h); simp [did, this], fun h => by have := x6 (by simpa [did] using h); simp [did, this], ⟨fun _ => hT, fun h => by simp [did, hl] at h⟩⟩
            · have hl : d 13 = false := by
                cases h : d 13
                · rfl
                · have := x6 h; simp [hd] at this
              replace hT := hT.1 hl
              have g0 := h0 (by simp [hdep])
              unfold OpSteps
              obtain ⟨p0, p1, p2, p3, p4⟩ := cells5 (HZ2.out.below hT HZ2.out.lt)
              simp [go_sem, evS, g0, p0, p1, p2, p3, p4]
              exact ⟨fun h => by simpa [sput] using h0 (by simpa [did] using h), fun _ => by simp [sput], fun h => by simpa [sput] using h2 (by simpa [did] using h), fun h => by simpa [sput] using h3 (by simpa [did] using h), fun h => by simpa [sput] using h4 (by simpa [did] using h), fun h => by simpa [sput] using h5 (by simpa [did] using h), fun h => by simpa [sput] using h6 (by simpa [did] using h), fun h => by simpa [sput] using h7 (by simpa [did] using h), fun h => by simpa [sput] using h8 (by simpa [did] using h), fun h => by simpa [sput] using h9 (by simpa [did] using h), fun h => by simpa [sput] using h10 (by simpa [did] using h), fun h => by simpa [sput] using h11 (by simpa [did] using h), fun h => by simpa [sput] using h12 (by simpa [did] using h), fun _ => by simp [did, hdep], fun h => by have := x1 (by simpa [did] using h); simp [did, this], fun h => by have := x2 (by simpa [did] using h); simp [did, this], fun h => by have := x3 (by simpa [did] using h); simp [did, this], fun h => by have := x4 (by simpa [did] using h); simp [did, this], fun h => by have := x5 (by simpa [did] using h); simp [did, this], fun h => by have := x6 (by simpa [did] using h); simp [did, this], ⟨fun _ => hT, fun h => by simp [did, hl] at h⟩⟩
            · have hl : d 13 = false := by
                cases h : d 13
                · rfl
                · have := x6 h; simp [hd] at this
              replace hT := hT.1 hl
              unfold OpSteps
              simp [go_sem, evS, f6]
              exact ⟨fun h => by simpa [sput] using h0 (by simpa [did] using h), fun h => by simpa [sput] using h1 (by simpa [did] using h), fun _ => by simp [sput, w3'], fun h => by simpa [sput] using h3 (by simpa [did] using h), fun h => by simpa [sput] using h4 (by simpa [did] using h), fun h => by simpa [sput] using h5 (by simpa [did] using h), fun h => by simpa [sput] using h6 (by simpa [did] using h), fun h => by simpa [sput] using h7 (by simpa [did] using h), fun h => by simpa [sput] using h8 (by simpa [did] using h), fun h => by simpa [sput] using h9 (by simpa [did] using h), fun h => by simpa [sput] using h10 (by simpa [did] using h), fun h => by simpa [sput] using h11 (by simpa [did] using h), fun h => by simpa [sput] using h12 (by simpa [did] using h), fun h => by have := x0 (by simpa [did] using h); simp [did, this], fun h => by have := x1 (by simpa [did] using h); simp [did, this], fun h => by have := x2 (by simpa [did] using h); simp [did, this], fun h => by have := x3 (by simpa [did] using h); simp [did, this], fun h => by have := x4 (by simpa [did] using h); simp [did, this], fun h => by have := x5 (by simpa [did] using h); simp [did, this], fun h => by have := x6 (by simpa [did] using h); simp [did, this], ⟨fun _ => hT, fun h => by simp [did, hl] at h⟩⟩
            · have hl : d 13 = false := by
                cases h : d 13
                · rfl
                · have := x6 h; simp [hd] at this
              replace hT := hT.1 hl
              unfold OpSteps
              simp [go_sem, evS, f1]
              exact ⟨fun h => by simpa [sput] using h0 (by simpa [did] using h), fun h => by simpa [sput] using h1 (by simpa [did] using h), fun h => by simpa [sput] using h2 (by simpa [did] using h), fun _ => by simp [sput], fun h => by simpa [sput] using h4 (by simpa [did] using h), fun h => by simpa [sput] using h5 (by simpa [did] using h), fun h => by simpa [sput] using h6 (by simpa [did] using h), fun h => by simpa [sput] using h7 (by simpa [did] using h), fun h => by simpa [sput] using h8 (by simpa [did] using h), fun h => by simpa [sput] using h9 (by simpa [did] using h), fun h => by simpa [sput] using h10 (by simpa [did] using h), fun h => by simpa [sput] using h11 (by simpa [did] using h), fun h => by simpa [sput] using h12 (by simpa [did] using h), fun h => by have := x0 (by simpa [did] using h); simp [did, this], fun h => by have := x1 (by simpa [did] using h); simp [did, this], fun h => by have := x2 (by simpa [did] using h); simp [did, this], fun h => by have := x3 (by simpa [did] using h); simp [did, this], fun h => by have := x4 (by simpa [did] using h); simp [did, this], fun h => by have := x5 (by simpa [did] using h); simp [did, this], fun h => by have := x6 (by simpa [did] using h); simp [did, this], ⟨fun _ => hT, fun h => by simp [did, hl] at h⟩⟩
            · have hl : d 13 = false := by
                cases h : d 13
                · rfl
                · have := x6 h; simp [hd] at this
              replace hT := hT.1 hl
              unfold OpSteps
              simp [go_sem, evS, f5]
              exact ⟨fun h => by simpa [sput] using h0 (by simpa [did] using h), fun h => by simpa [sput] using h1 (by simpa [did] using h), fun h => by simpa [sput] using h2 (by simpa [did] using h), fun h => by simpa [sput] using h3 (by simpa [did] using h), fun _ => by simp [sput], fun h => by simpa [sput] using h5 (by simpa [did] using h), fun h => by simpa [sput] using h6 (by simpa [did] using h), fun h => by simpa [sput] using h7 (by simpa [did] using h), fun h => by simpa [sput] using h8 (by simpa [did] using h), fun h => by simpa [sput] using h9 (by simpa [did] using h), fun h => by simpa [sput] using h10 (by simpa [did] using h), fun h => by simpa [sput] using h11 (by simpa [did] using h), fun h => by simpa [sput] using h12 (by simpa [did] using h), fun h => by have := x0 (by simpa [did] using h); simp [did, this], fun h => by have := x1 (by simpa [did] using h); simp [did, this], fun h => by have := x2 (by simpa [did] using h); simp [did, this], fun h => by have := x3 (by simpa [did] using h); simp [did, this], fun h => by have := x4 (by simpa [did] using h); simp [did, this], fun h => by have := x5 (by simpa [did] using h); simp [did, this], fun h => by have := x6 (by simpa [did] using h); simp [did, this], ⟨fun _ => hT, fun h => by simp [did, hl] at h⟩⟩
            · have hl : d 13 = false := by
                cases h : d 13
                · rfl
                · have := x6 h; simp [hd] at this
              replace hT := hT.1 hl
              unfold OpSteps
              simp [go_sem, evS, f4]
              exact ⟨fun h => by simpa [sput] using h0 (by simpa [did] using h), fun h => by simpa [sput] using h1 (by simpa [did] using h), fun h => by simpa [sput] using h2 (by simpa [did] using h), fun h => by simpa [sput] using h3 (by simpa [did] using h), fun h => by simpa [sput] using h4 (by simpa [did] using h), fun _ => by simp [sput], fun h => by simpa [sput] using h6 (by simpa [did] using h), fun h => by simpa [sput] using h7 (by simpa [did] using h), fun h => by simpa [sput] using h8 (by simpa [did] using h), fun h => by simpa [sput] using h9 (by simpa [did] using h), fun h => by simpa [sput] using h10 (by simpa [did] using h), fun h => by simpa [sput] using h11 (by simpa [did] using h), fun h => by simpa [sput] using h12 (by simpa [did] using h), fun h => by have := x0 (by simpa [did] using h); simp [did, this], fun h => by have := x1 (by simpa [did] using h); simp [did, this], fun h => by have := x2 (by simpa [did] using h); simp [did, this], fun h => by have := x3 (by simpa [did] using h); simp [did, this], fun h => by have := x4 (by simpa [did] using h); simp [did, this], fun h => by have := x5 (by simpa [did] using h); simp [did, this], fun h => by have := x6 (by simpa [did] using h); simp [did, this], ⟨fun _ => hT, fun h => by simp [did, hl] at h⟩⟩
            · have hl : d 13 = false := by
                cases h : d 13
                · rfl
                · have := x6 h; simp [hd] at this
              replace hT := hT.1 hl
              unfold OpSteps
              simp [go_sem, evS, f2]
              exact ⟨fun h => by simpa [sput] using h0 (by simpa [did] using h), fun h => by simpa [sput] using h1 (by simpa [did] using h), fun h => by simpa [sput] using h2 (by simpa [did] using h), fun h => by simpa [sput] using h3 (by simpa [did] using h), fun h => by simpa [sput] using h4 (by simpa [did] using h), fun h => by simpa [sput] using h5 (by simpa [did] using h), fun _ => by simp [sput], fun h => by simpa [sput] using h7 (by simpa [did] using h), fun h => by simpa [sput] using h8 (by simpa [did] using h), fun h => by simpa [sput] using h9 (by simpa [did] using h), fun h => by simpa [sput] using h10 (by simpa [did] using h), fun h => by simpa [sput] using h11 (by simpa [did] using h), fun h => by simpa [sput] using h12 (by simpa [did] using h), fun h => by have := x0 (by simpa [did] using h); simp [did, this], fun h => by have := x1 (by simpa [did] using h); simp [did, this], fun h => by have := x2 (by simpa [did] using h); simp [did, this], fun h => by have := x3 (by simpa [did] using h); simp [did, this], fun h => by have := x4 (by simpa [did] using h); simp [did, this], fun h => by have := x5 (by simpa [did] using h); simp [did, this], fun h => by have := x6 (by simpa [did] using h); simp [did, this], ⟨fun _ => hT, fun h => by simp [did, hl] at h⟩⟩
            · have hl : d 13 = false := by
                cases h : d 13
                · rfl
                · have := x6 h; simp [hd] at this
              replace hT := hT.1 hl
              have g6 := h6 (by simp [hdep])
              unfold OpSteps
              obtain ⟨p0, p1, p2, p3, p4⟩ := cells5 (HZ2.out.below hT HZ2.out.lt)
              simp [go_sem, evS, g6, p0, p1, p2, p3, p4]
              exact ⟨fun h => by simpa [sput] using h0 (by simpa [did] using h), fun h => by simpa [sput] using h1 (by simpa [did] using h), fun h => by simpa [sput] using h2 (by simpa [did] using h), fun h => by simpa [sput] using h3 (by simpa [did] using h), fun h => by simpa [sput] using h4 (by simpa [did] using h), fun h => by simpa [sput] using h5 (by simpa [did] using h), fun h => by simpa [sput] using h6 (by simpa [did] using h), fun _ => by simp [sput], fun h => by simpa [sput] using h8 (by simpa [did] using h), fun h => by simpa [sput] using h9 (by simpa [did] using h), fun h => by simpa [sput] using h10 (by simpa [did] using h), fun h => by simpa [sput] using h11 (by simpa [did] using h), fun h => by simpa [sput] using h12 (by simpa [did] using h), fun h => by have := x0 (by simpa [did] using h); simp [did, this], fun _ => by simp [did, hdep], fun h => by have := x2 (by simpa [did] using h); simp [did, this], fun h => by have := x3 (by simpa [did] using h); simp [did, this], fun h => by have := x4 (by simpa [did] using h); simp [did, this], fun h => by have := x5 (by simpa [did] using h); simp [did, this], fun h => by have := x6 (by simpa [did] using h); simp [did, this], ⟨fun _ => hT, fun h => by simp [did, hl] at h⟩⟩
            · have hl : d 13 = false := by
                cases h : d 13
                · rfl
                · have := x6 h; simp [hd] at this
              replace hT := hT.1 hl
              unfold OpSteps
              simp [go_sem, evS, f6]
              exact ⟨fun h => by simpa [sput] using h0 (by simpa [did] using h), fun h => by simpa [sput] using h1 (by simpa [did] using h), fun h => by simpa [sput] using h2 (by simpa [did] using h), fun h => by simpa [sput] using h3 (by simpa [did] using h), fun h => by simpa [sput] using h4 (by simpa [did] using h), fun h => by simpa [sput] using h5 (by simpa [did] using h), fun h => by simpa [sput] using h6 (by simpa [did] using h), fun h => by simpa [sput] using h7 (by simpa [did] using h), fun _ => by simp [sput, w3'], fun h => by simpa [sput] using h9 (by simpa [did] using h), fun h => by simpa [sput] using h10 (by simpa [did] using h), fun h => by simpa [sput] using h11 (by simpa [did] using h), fun h => by simpa [sput] using h12 (by simpa [did] using h), fun h => by have := x0 (by simpa [did] using h); simp [did, this], fun h => by have := x1 (by simpa [did] using h); simp [did, this], fun h => by have := x2 (by simpa [did] using h); simp [did, this], fun h => by have := x3 (by simpa [did] using h); simp [did, this], fun h => by have := x4 (by simpa [did] using h); simp [did, this], fun h => by have := x5 (by simpa [did] using h); simp [did, this], fun h => by have := x6 (by simpa [did] using h); simp [did, this], ⟨fun _ => hT, fun h => by simp [did, hl] at h⟩⟩
            · have hl : d 13 = false := by
                cases h : d 13
                · rfl
                · have := x6 h; simp [hd] at this
              replace hT := hT.1 hl
              have g7 := h7 (by simp [hdep])
              have g8 := h8 (by simp [hdep])
              unfold OpSteps
              simp [go_sem, evS, g7, g8, b2]
              exact ⟨fun h => by simpa [sput] using h0 (by simpa [did] using h), fun h => by simpa [sput] using h1 (by simpa [did] using h), fun h => by simpa [sput] using h2 (by simpa [did] using h), fun h => by simpa [sput] using h3 (by simpa [did] using h), fun h => by simpa [sput] using h4 (by simpa [did] using h), fun h => by simpa [sput] using h5 (by simpa [did] using h), fun h => by simpa [sput] using h6 (by simpa [did] using h), fun h => by simpa [sput] using h7 (by simpa [did] using h), fun h => by simpa [sput] using h8 (by simpa [did] using h), fun _ => by simp [sput], fun h => by simpa [sput] using h10 (by simpa [did] using h), fun h => by simpa [sput] using h11 (by simpa [did] using h), fun h => by simpa [sput] using h12 (by simpa [did] using h), fun h => by have := x0 (by simpa [did] using h); simp [did, this], fun h => by have := x1 (by simpa [did] using h); simp [did, this], fun _ => by have y7 := x1 (by simp [hdep]); simp [did, hdep, y7], fun h => by have := x3 (by simpa [did] using h); simp [did, this], fun h => by have := x4 (by simpa [did] using h); simp [did, this], fun h => by have := x5 (by simpa [did] using h); simp [did, this], fun h => by have := x6 (by simpa [did] using h); simp [did, this], ⟨fun _ => hT, fun h => by simp [did, hl] at h⟩⟩
            · have hl : d 13 = false := by
                cases h : d 13
                · rfl
                · have := x6 h; simp [hd] at this
              replace hT := hT.1 hl
              have g9 := h9 (by simp [hdep])
              unfold OpSteps
              have pc := cell_below HCe.out hT
              simp [go_sem, evS, g9, pc]
              exact ⟨fun h => by simpa [sput] using h0 (by simpa [did] using h), fun h => by simpa [sput] using h1 (by simpa [did] using h), fun h => by simpa [sput] using h2 (by simpa [did] using h), fun h => by simpa [sput] using h3 (by simpa [did] using h), fun h => by simpa [sput] using h4 (by simpa [did] using h), fun h => by simpa [sput] using h5 (by simpa [did] using h), fun h => by simpa [sput] using h6 (by simpa [did] using h), fun h => by simpa [sput] using h7 (by simpa [did] using h), fun h => by simpa [sput] using h8 (by simpa [did] using h), fun h => by simpa [sput] using h9 (by simpa [did] using h), fun _ => by simp [sput], fun h => by simpa [sput] using h11 (by simpa [did] using h), fun h => by simpa [sput] using h12 (by simpa [did] using h), fun h => by have := x0 (by simpa [did] using h); simp [did, this], fun h => by have := x1 (by simpa [did] using h); simp [did, this], fun h => by have := x2 (by simpa [did] using h); simp [did, this], fun _ => by have y9 := x2 (by simp [hdep]); simp [did, hdep, y9], fun h => by have := x4 (by simpa [did] using h); simp [did, this], fun h => by have := x5 (by simpa [did] using h); simp [did, this], fun h => by have := x6 (by simpa [did] using h); simp [did, this], ⟨fun _ => hT, fun h => by simp [did, hl] at h⟩⟩
            · have hl : d 13 = false := by
                cases h : d 13
                · rfl
                · have := x6 h; simp [hd] at this
              replace hT := hT.1 hl
              have g3 := h3 (by simp [hdep])
              have g4 := h4 (by simp [hdep])
              have g5 := h5 (by simp [hdep])
              have g10 := h10 (by simp [hdep])
              unfold OpSteps
              simp [go_sem, evS, g3, g4, g5, g10, HF.out]
              refine (HC0.out W (HIb.out _ _ HI.out hT)).mono ?_
              rintro e W' ⟨r, rfl, hr, hb⟩
              refine ⟨_, rfl, ?_⟩
              exact ⟨fun h => by simpa [sput] using h0 (by simpa [did] using h), fun h => by simpa [sput] using h1 (by simpa [did] using h), fun h => by simpa [sput] using h2 (by simpa [did] using h), fun h => by simpa [sput] using h3 (by simpa [did] using h), fun h => by simpa [sput] using h4 (by simpa [did] using h), fun h => by simpa [sput] using h5 (by simpa [did] using h), fun h => by simpa [sput] using h6 (by simpa [did] using h), fun h => by simpa [sput] using h7 (by simpa [did] using h), fun h => by simpa [sput] using h8 (by simpa [did] using h), fun h => by simpa [sput] using h9 (by simpa [did] using h), fun h => by simpa [sput] using h10 (by simpa [did] using h), fun _ => ⟨r, by simp [sput], hr⟩, fun h => by simpa [sput] using h12 (by simpa [did] using h), fun h => by have := x0 (by simpa [did] using h); simp [did, this], fun h => by have := x1 (by simpa [did] using h); simp [did, this], fun h => by have := x2 (by simpa [did] using h); simp [did, this], fun h => by have := x3 (by simpa [did] using h); simp [did, this], fun _ => by have y10 := x3 (by simp [hdep]); simp [did, hdep, y10], fun h => by have := x5 (by simpa [did] using h); simp [did, this], fun h => by have := x6 (by simpa [did] using h); simp [did, this], ⟨fun _ => below_nx hT hb, fun h => by simp [did, hl] at h⟩⟩
            · have hl : d 13 = false := by
                cases h : d 13
                · rfl
                · have := x6 h; simp [hd] at this
              replace hT := hT.1 hl
              have g1 := h1 (by simp [hdep])
              have g2 := h2 (by simp [hdep])
              unfold OpSteps
              simp [go_sem, evS, g1, g2, b2]
              exact ⟨fun h => by simpa [sput] using h0 (by simpa [did] using h), fun h => by simpa [sput] using h1 (by simpa [did] using h), fun h => by simpa [sput] using h2 (by simpa [did] using h), fun h => by simpa [sput] using h3 (by simpa [did] using h), fun h => by simpa [sput] using h4 (by simpa [did] using h), fun h => by simpa [sput] using h5 (by simpa [did] using h), fun h => by simpa [sput] using h6 (by simpa [did] using h), fun h => by simpa [sput] using h7 (by simpa [did] using h), fun h => by simpa [sput] using h8 (by simpa [did] using h), fun h => by simpa [sput] using h9 (by simpa [did] using h), fun h => by simpa [sput] using h10 (by simpa [did] using h), fun h => by simpa [sput] using h11 (by simpa [did] using h), fun _ => by simp [sput], fun h => by have := x0 (by simpa [did] using h); simp [did, this], fun h => by have := x1 (by simpa [did] using h); simp [did, this], fun h => by have := x2 (by simpa [did] using h); simp [did, this], fun h => by have := x3 (by simpa [did] using h); simp [did, this], fun h => by have := x4 (by simpa [did] using h); simp [did, this], fun _ => by have y1 := x0 (by simp [hdep]); simp [did, hdep, y1], fun h => by have := x6 (by simpa [did] using h); simp [did, this], ⟨fun _ => hT, fun h => by simp [did, hl] at h⟩⟩
            · have g12 := h12 (by simp [hdep])
              have g11 := h11 (by simp [hdep])
              unfold OpSteps
              replace hT := hT.1 hd
              obtain ⟨r, gr, hr⟩ := g11
              have hfz := frz_belowg HFz.out hlt0 hT
              have hcl := cell_below HCe.out hT
              simp [go_sem, evS, g12, gr, hfz, hcl]
              exact ⟨fun h => by simpa [sput] using h0 (by simpa [did] using h), fun h => by simpa [sput] using h1 (by simpa [did] using h), fun h => by simpa [sput] using h2 (by simpa [did] using h), fun h => by simpa [sput] using h3 (by simpa [did] using h), fun h => by simpa [sput] using h4 (by simpa [did] using h), fun h => by simpa [sput] using h5 (by simpa [did] using h), fun h => by simpa [sput] using h6 (by simpa [did] using h), fun h => by simpa [sput] using h7 (by simpa [did] using h), fun h => by simpa [sput] using h8 (by simpa [did] using h), fun h => by simpa [sput] using h9 (by simpa [did] using h), fun h => by simpa [sput] using h10 (by simpa [did] using h), fun h => by simpa [sput] using h11 (by simpa [did] using h), fun h => by simpa [sput] using h12 (by simpa [did] using h), fun h => by have := x0 (by simpa [did] using h); simp [did, this], fun h => by have := x1 (by simpa [did] using h); simp [did, this], fun h => by have := x2 (by simpa [did] using h); simp [did, this], fun h => by have := x3 (by simpa [did] using h); simp [did, this], fun h => by have := x4 (by simpa [did] using h); simp [did, this], fun h => by have := x5 (by simpa [did] using h); simp [did, this], fun _ => by have y11 := x4 (by simp [hdep]); have y12 := x5 (by simp [hdep]); simp [did, hdep, y11, y12], ⟨fun h => by simp [did] at h, fun _ => ⟨W, r, hT, rfl, hr⟩⟩⟩
          intro d s W hJ hd
          obtain ⟨h0, h1, h2, h3, h4, h5, h6, h7, h8, h9, h10, h11, h12, x0, x1, x2, x3, x4, x5, x6, hT⟩ := hJ
          obtain ⟨W', r, hbw, rfl, hr⟩ := hT.2 (hd 13 (by decide))
          have HR := Lib.hid hr
          have HBw := Lib.hid hbw
          clear h0 h1 h2 h3 h4 h5 h6 h7 h8 h9 h10 h11 h12 x0 x1 x2 x3 x4 x5 x6 hT hd hbw hr
          simp [setAll]
          generalize s 26 = s26
          generalize s 27 = s27
          generalize s 28 = s28
          generalize s 29 = s29
          generalize s 30 = s30
          generalize s 31 = s31
          generalize s 32 = s32
          generalize s 33 = s33
          generalize s 34 = s34
          generalize s 35 = s35
          generalize s 36 = s36
          generalize s 37 = s37
          generalize s 38 = s38
          go_wp2_with fail
          go_roundw
          case rel => exact ⟨a1 + 1, l1.set P r, by omega, by go_num, HDone.out r HR.out W' HBw.out⟩
          case measure => simp [intOf]; omega
        · obtain rfl : a1 = R := by omega
          have hqc : ¬ (a1 : Int) < (a1 : Int) := by omega
          go_wp2_with fail
          go_roundw
          case rel => exact ⟨b1 + 1, l1, by omega, by go_num, Lib.hid ⟨HH.out.1.next, HH.out.2⟩⟩
          case measure => simp [intOf]; omega
    · obtain rfl : b1 = C := by omega
      have hqc : ¬ (b1 : Int) < (b1 : Int) := by omega
      go_wp2_with fail
      go_end0
      obtain ⟨e1, e3, e4, e5, e6⟩ := HH.out
      exact ⟨rfl, l1, e3, e1.done, e4, e5⟩
end Go.Proofs.Ytelpdbkkefpjhaa
