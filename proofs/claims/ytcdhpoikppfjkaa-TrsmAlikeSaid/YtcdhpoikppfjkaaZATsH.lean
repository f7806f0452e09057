/-
Trsm: what a block came to is taken off. Conditions: as each says.
-/
import Derived.Test.YtcdhpoikppfjkaaZATsF
import Derived.BigQuiet
import Derived.Deep.QuietTactic
set_option linter.unusedVariables false
set_option linter.unusedSimpArgs false
set_option linter.unnecessarySimpa false
namespace Go.Proofs.Ytcdhpoikppfjkaa
open Go.RowKit
attribute [local go_sem ↓] Go.wp_at_zero Go.wp_at_succ

set_option maxRecDepth 100000 in
set_option maxHeartbeats 2000000 in
theorem tstake_low {w0 : World} {A : Option Addr} {nm cm o R L : Nat} {f : Nat → Nat → Nat} {g n c : Nat} {l : List Nat} {o2 C L2 : Nat} (H : TsH w0 A nm cm o R L f g n c l o2 C L2) (J b s : Nat) (hJ : J < C) (hb : b + s ≤ R) {Z : Nat → Nat → Nat} {W : World} (hW : TsW A o R L f g l o2 C L2 Z W) (hc : Chg [g] w0 W) :
    Calls Try.prog 20 #[.agg #[.int .i64 1, .slice A nm cm, .int .i64 (o : Int), .int .i64 (R : Int), .int .i64 (R : Int), .int .i64 (L : Int), .slice (some ⟨g, 0, none⟩) n c, .int .i64 (o2 : Int), .int .i64 (R : Int), .int .i64 (C : Int), .int .i64 (L2 : Int)], .agg #[.int .i64 (b : Int), .int .i64 (s : Int)], .int .i64 J] W fun e w' => e = .returned (.tuple #[]) ∧ TsW A o R L f g l o2 C L2 (tsZt f Z J (b + s) (R - (b + s)) b s) w' ∧ Chg [g] W w' := by
  have HB0 := Lib.hid (((Below.refl W.heap.size W).alloc (Nat.le_refl _) (.cells #[.int .i64 1, .slice A nm cm, .int .i64 (o : Int), .int .i64 (R : Int), .int .i64 (R : Int), .int .i64 (L : Int), .slice (some ⟨g, 0, none⟩) n c, .int .i64 (o2 : Int), .int .i64 (R : Int), .int .i64 (C : Int), .int .i64 (L2 : Int)] 45)).alloc (by simp) (.cells #[.int .i64 (b : Int), .int .i64 (s : Int)] 49))
  have HW0 := Lib.hid (hW.nxt HB0.out)
  have HC0 := Lib.hid (Chg.of_below (G := [g]) HB0.out)
  have HZ0 := Lib.hid ((Blk.new W 45 #[.int .i64 1, .slice A nm cm, .int .i64 (o : Int), .int .i64 (R : Int), .int .i64 (R : Int), .int .i64 (L : Int), .slice (some ⟨g, 0, none⟩) n c, .int .i64 (o2 : Int), .int .i64 (R : Int), .int .i64 (C : Int), .int .i64 (L2 : Int)]).alloc (.cells #[.int .i64 (b : Int), .int .i64 (s : Int)] 49))
  have HJ0 := Lib.hid (Blk.new_ (W.alloc (.cells #[.int .i64 1, .slice A nm cm, .int .i64 (o : Int), .int .i64 (R : Int), .int .i64 (R : Int), .int .i64 (L : Int), .slice (some ⟨g, 0, none⟩) n c, .int .i64 (o2 : Int), .int .i64 (R : Int), .int .i64 (C : Int), .int .i64 (L2 : Int)] 45)) 49 #[.int .i64 (b : Int), .int .i64 (s : Int)] (W.heap.size + 1) (by simp))
  have Hg := Lib.hid (show g < W.heap.size from by obtain ⟨y, _, h, _⟩ := hW; exact h.lt)
  have HTi := Lib.hid (fun W' (h : TsW A o R L f g l o2 C L2 Z W') (h2 : Chg [g] W W') => tstimes_nat H 1 J (b + s) (R - (b + s)) b s hJ (by omega) (by omega) (.inr (Nat.le_refl _)) h (hc.trans h2))
  have hRb := H.hRb
  obtain ⟨t, ht⟩ : ∃ t, b + s = t := ⟨_, rfl⟩
  obtain ⟨m, hm⟩ : ∃ m, R - t = m := ⟨_, rfl⟩
  rw [ht, hm] at HTi
  rw [ht, hm]
  have w1 : wrap64 ((b : Int) + (s : Int)) = (t : Int) := by unfold wrap64; omega
  have w2 : IntKind.i64.wrap ((b : Int) + (s : Int)) = (t : Int) := by rw [wrapi (by omega) (by omega)]; omega
  have w3 : wrap64 ((R : Int) - (t : Int)) = (m : Int) := by unfold wrap64; omega
  have w4 : IntKind.i64.wrap ((R : Int) - (t : Int)) = (m : Int) := by rw [wrapi (by omega) (by omega)]; omega
  clear hW hc H hJ hb ht hm hRb
  obtain ⟨z0, z1, z2, z3, z4, z5, z6, z7, z8, z9, z10⟩ := cells11 HZ0.out
  obtain ⟨j0, j1⟩ := cells2j HJ0.out
  go_enter Try.func20, Try.ntmps20
  go_wp2_with fail
  go_quiet (fail)
  go_wp2_with fail
  refine (HTi.out _ (HW0.out.nxt (below_drewN (Below.refl _ _) _)) (HC0.out.drewN _)).mono ?_
  rintro e w9 ⟨rfl, h1, h2⟩
  have HE := Lib.hid (And.intro h1 ((HC0.out.drewN _).trans h2))
  clear h1 h2 z0 z1 z2 z3 z4 z5 z6 z7 z8 z9 z10 j0 j1 w1 w2 w3 w4
  go_wp2_with fail
  go_end0
  exact ⟨rfl, HE.out⟩

set_option maxRecDepth 100000 in
set_option maxHeartbeats 2000000 in
theorem tstake_up {w0 : World} {A : Option Addr} {nm cm o R L : Nat} {f : Nat → Nat → Nat} {g n c : Nat} {l : List Nat} {o2 C L2 : Nat} (H : TsH w0 A nm cm o R L f g n c l o2 C L2) (J b s : Nat) (hJ : J < C) (hb : b + s ≤ R) {x : Nat → Nat} {E : Nat → Nat → Nat} {F : Nat → Nat} (hS : TrS 2 R (trV 2 f) x E F) {Z : Nat → Nat → Nat} {W : World} (hW : TsW A o R L f g l o2 C L2 Z W) (hc : Chg [g] w0 W) (hZ : ∀ i, i < R → Z J i = tsM 2 R E F b s (b + s) i) :
    Calls Try.prog 20 #[.agg #[.int .i64 2, .slice A nm cm, .int .i64 (o : Int), .int .i64 (R : Int), .int .i64 (R : Int), .int .i64 (L : Int), .slice (some ⟨g, 0, none⟩) n c, .int .i64 (o2 : Int), .int .i64 (R : Int), .int .i64 (C : Int), .int .i64 (L2 : Int)], .agg #[.int .i64 (b : Int), .int .i64 (s : Int)], .int .i64 J] W fun e w' => e = .returned (.tuple #[]) ∧ TsW A o R L f g l o2 C L2 (fun j i => if j = J then tsM 2 R E F b s b i else Z j i) w' ∧ Chg [g] W w' := by
  have HB0 := Lib.hid (((Below.refl W.heap.size W).alloc (Nat.le_refl _) (.cells #[.int .i64 2, .slice A nm cm, .int .i64 (o : Int), .int .i64 (R : Int), .int .i64 (R : Int), .int .i64 (L : Int), .slice (some ⟨g, 0, none⟩) n c, .int .i64 (o2 : Int), .int .i64 (R : Int), .int .i64 (C : Int), .int .i64 (L2 : Int)] 45)).alloc (by simp) (.cells #[.int .i64 (b : Int), .int .i64 (s : Int)] 49))
  have HW0 := Lib.hid (hW.nxt HB0.out)
  have HC0 := Lib.hid (Chg.of_below (G := [g]) HB0.out)
  have HZ0 := Lib.hid ((Blk.new W 45 #[.int .i64 2, .slice A nm cm, .int .i64 (o : Int), .int .i64 (R : Int), .int .i64 (R : Int), .int .i64 (L : Int), .slice (some ⟨g, 0, none⟩) n c, .int .i64 (o2 : Int), .int .i64 (R : Int), .int .i64 (C : Int), .int .i64 (L2 : Int)]).alloc (.cells #[.int .i64 (b : Int), .int .i64 (s : Int)] 49))
  have HJ0 := Lib.hid (Blk.new_ (W.alloc (.cells #[.int .i64 2, .slice A nm cm, .int .i64 (o : Int), .int .i64 (R : Int), .int .i64 (R : Int), .int .i64 (L : Int), .slice (some ⟨g, 0, none⟩) n c, .int .i64 (o2 : Int), .int .i64 (R : Int), .int .i64 (C : Int), .int .i64 (L2 : Int)] 45)) 49 #[.int .i64 (b : Int), .int .i64 (s : Int)] (W.heap.size + 1) (by simp))
  have Hg := Lib.hid (show g < W.heap.size from by obtain ⟨y, _, h, _⟩ := hW; exact h.lt)
  have HTi := Lib.hid (fun k (hk : b ≤ k ∧ k < b + s) W' (h : TsW A o R L f g l o2 C L2 (fun j i => if j = J then tsM 2 R E F b s (k + 1) i else Z j i) W') (h2 : Chg [g] W W') =>
    show Calls Try.prog 37 #[.agg #[.int .i64 2, .slice A nm cm, .int .i64 (o : Int), .int .i64 (R : Int), .int .i64 (R : Int), .int .i64 (L : Int), .slice (some ⟨g, 0, none⟩) n c, .int .i64 (o2 : Int), .int .i64 (R : Int), .int .i64 (C : Int), .int .i64 (L2 : Int)], .agg #[.int .i64 0, .int .i64 (b : Int)], .agg #[.int .i64 (k : Int), .int .i64 1], .int .i64 J] W' fun e w' => e = .returned (.tuple #[]) ∧ TsW A o R L f g l o2 C L2 (fun j i => if j = J then tsM 2 R E F b s k i else Z j i) w' ∧ Chg [g] W w' ∧ Chg [g] W' w' from
      (tstimes_nat H 2 J 0 b k 1 hJ (by omega) (by omega) (.inl (by omega)) h (hc.trans h2)).mono fun e w' ⟨e1, e2, e3⟩ => ⟨e1, e2.congr (fun j hj i hi => by
        unfold tsZt
        by_cases e : j = J
        · subst e
          have h9 := tsM_up hS (p := i) hi hk.1 hk.2 (by omega)
          simp only [true_and, if_true] at h9 ⊢
          exact h9
        · simp [e]), h2.trans e3, e3⟩)
  have HW1 := Lib.hid (HW0.out.congr (Z' := fun j i => if j = J then tsM 2 R E F b s (b + s) i else Z j i) fun j hj i hi => by
    by_cases e : j = J
    · subst e; rw [if_pos rfl]; exact hZ i hi
    · rw [if_neg e])
  have hRb := H.hRb
  obtain ⟨t, ht⟩ : ∃ t, b + s = t := ⟨_, rfl⟩
  obtain ⟨z, hz⟩ : ∃ z : Int, (t : Int) - 1 = z := ⟨_, rfl⟩
  rw [ht] at HTi HW1
  have w1 : wrap64 ((b : Int) + (s : Int)) = (t : Int) := by unfold wrap64; omega
  have w2 : IntKind.i64.wrap ((b : Int) + (s : Int)) = (t : Int) := by rw [wrapi (by omega) (by omega)]; omega
  have w3 : wrap64 ((t : Int) - 1) = z := by unfold wrap64; omega
  have w4 : IntKind.i64.wrap ((t : Int) - 1) = z := by rw [wrapi (by omega) (by omega)]; omega
  have Ht := Lib.hid (show t < 1048576 ∧ b ≤ t ∧ (t : Int) - 1 = z from ⟨by omega, by omega, hz⟩)
  clear hW hc H hJ hb ht hz hRb hS hZ HW0
  obtain ⟨z0, z1, z2, z3, z4, z5, z6, z7, z8, z9, z10⟩ := cells11 HZ0.out
  obtain ⟨j0, j1⟩ := cells2j HJ0.out
  go_enter Try.func20, Try.ntmps20
  go_wp2_with fail
  go_quiet (fail)
  go_wp2_with fail
  clear z0 z1 z2 z3 z4 z5 z6 z7 z8 z9 z10 j0 j1 w1 w2 w3 w4
  go_loopw [8] (fun x wr => ∃ (k : Nat) (j : Int), x = .int .i64 j ∧ Hid (j = (k : Int) - 1 ∧ b ≤ k ∧ k ≤ t ∧ TsW A o R L f g l o2 C L2 (fun j i => if j = J then tsM 2 R E F b s k i else Z j i) wr ∧ Chg [g] W wr ∧ Blk wr W.heap.size 45 #[.int .i64 2, .slice A nm cm, .int .i64 (o : Int), .int .i64 (R : Int), .int .i64 (R : Int), .int .i64 (L : Int), .slice (some ⟨g, 0, none⟩) n c, .int .i64 (o2 : Int), .int .i64 (R : Int), .int .i64 (C : Int), .int .i64 (L2 : Int)] ∧ Blk wr (W.heap.size + 1) 49 #[.int .i64 (b : Int), .int .i64 (s : Int)])) (fun x _ => (intOf x + 1).toNat)
  case atStart => exact ⟨t, z, rfl, Lib.hid ⟨Ht.out.2.2.symm, Ht.out.2.1, Nat.le_refl _, HW1.out.nxt (below_drewN (Below.refl _ _) _), HC0.out.drewN _, HZ0.out.drewN _, HJ0.out.drewN _⟩⟩
  case round =>
    obtain ⟨k, j, rfl, HH⟩ := hrel
    obtain ⟨z0, z1, z2, z3, z4, z5, z6, z7, z8, z9, z10⟩ := cells11 HH.out.2.2.2.2.2.1
    obtain ⟨j0, j1⟩ := cells2j HH.out.2.2.2.2.2.2
    by_cases hlt : (b : Int) ≤ j
    · obtain ⟨p, rfl⟩ : ∃ p : Nat, j = (p : Int) := ⟨j.toNat, by omega⟩
      have hkp : k = p + 1 := by have := HH.out.1; omega
      subst hkp
      have hge : ¬ (p : Int) < (b : Int) := by omega
      have Hp := Lib.hid (show b ≤ p ∧ p < t from by have := HH.out.2.2.1; omega)
      have HTp := Lib.hid (HTi.out p Hp.out _ HH.out.2.2.2.1 HH.out.2.2.2.2.1)
      have hp9 : p ≤ 1048576 := by have := Hp.out; have := Ht.out; omega
      go_wp2_with fail
      refine HTp.out.mono ?_
      rintro e w9 ⟨rfl, h1, h2, h3⟩
      have hz0 : g < W.heap.size := Hg.out
      have HE := Lib.hid (show TsW A o R L f g l o2 C L2 (fun j i => if j = J then tsM 2 R E F b s p i else Z j i) w9 ∧ Chg [g] W w9 ∧ Blk w9 W.heap.size 45 _ ∧ Blk w9 (W.heap.size + 1) 49 _ from ⟨h1, h2, h3.blk (by simp; omega) HH.out.2.2.2.2.2.1, h3.blk (by simp; omega) HH.out.2.2.2.2.2.2⟩)
      clear h1 h2 h3 hz0 z0 z1 z2 z3 z4 z5 z6 z7 z8 z9 z10 j0 j1
      go_wp2_with fail
      go_roundw
      case rel => exact ⟨p, (p : Int) - 1, rfl, Lib.hid ⟨rfl, Hp.out.1, by have := Hp.out; omega, HE.out.1, HE.out.2.1, HE.out.2.2.1, HE.out.2.2.2⟩⟩
      case measure => simp [intOf] <;> omega
    · have hge : (j : Int) < (b : Int) := by omega
      have HE := Lib.hid (show TsW A o R L f g l o2 C L2 (fun j i => if j = J then tsM 2 R E F b s b i else Z j i) wr ∧ Chg [g] W wr from by
        have e : k = b := by have := HH.out.1; have := HH.out.2.1; omega
        rw [e] at HH
        exact ⟨HH.out.2.2.2.1, HH.out.2.2.2.2.1⟩)
      go_wp2_with fail
      go_end0
      exact ⟨rfl, HE.out⟩
end Go.Proofs.Ytcdhpoikppfjkaa
