/-
Trsm: what a block came to is taken off. Conditions: as each says.
-/
import Derived.Test.YtcdhpoikppfjkaaZYTsF
import Derived.BigQuiet
import Derived.Deep.QuietTactic
import Derived.Shelf.Sort.Plain
import Derived.Ground.Names2Prog
import Derived.Shelf.Slices.CompactI
import Derived.Test.YtcdhpoikppfjkaaProg
import Derived.Test.YtcdhpoikppfjkaaWaan
import Derived.Test.YtcdhpoikppfjkaaWaac
import Derived.Test.YtcdhpoikppfjkaaWaad
import Derived.Test.YtcdhpoikppfjkaaZYVwH
import Derived.Laws.AppendOwn
set_option linter.unusedVariables false
set_option linter.unusedSimpArgs false
set_option linter.unnecessarySimpa false
namespace Go.Proofs.Ytcdhpoikppfjkaa
open Go.RowKit
attribute [local go_sem ↓] Go.wp_at_zero Go.wp_at_succ

set_option maxRecDepth 100000 in
set_option maxHeartbeats 2000000 in
theorem tstake_low {w0 : World} {A : Option Addr} {nm cm o R L : Nat} {f : Nat → Nat → Nat} {g n c : Nat} {l : List Nat} {o2 C L2 : Nat} (H : TsH w0 A nm cm o R L f g n c l o2 C L2) (J b s : Nat) (hJ : J < C) (hb : b + s ≤ R) {Z : Nat → Nat → Nat} {W : World} (hW : TsW A o R L f g l o2 C L2 Z W) (hc : Chg [g] w0 W) :
    Calls Try.prog 20 #[.agg #[.int .i64 1, .slice A nm cm, .int .i64 (o : Int), .int .i64 (R : Int), .int .i64 (R : Int), .int .i64 (L : Int), .slice (some ⟨g, 0, none⟩) n c, .int .i64 (o2 : Int), .int .i64 (R : Int), .int .i64 (C : Int), .int .i64 (L2 : Int)], .agg #[.int .i64 (b : Int), .int .i64 (s : Int)], .int .i64 J] W fun e w' => e = .returned (.tuple #[]) ∧ TsW A o R L f g l o2 C L2 (tsZt f Z J (b + s) (R - (b + s)) b s) w' ∧ Chg [g] W w' := by
  have HB0 := Lib.hid (((Below.refl W.heap.size W).alloc (Nat.le_refl _) (.cells #[.int .i64 1, .slice A nm cm, .int .i64 (o : Int), .int .i64 (R : Int), .int .i64 (R : Int), .int .i64 (L : Int), .slice (some ⟨g, 0, none⟩) n c, .int .i64 (o2 : Int), .int .i64 (R : Int), .int .i64 (C : Int), .int .i64 (L2 : Int)] 45)).alloc (by simp) (.cells #[.int .i64 (b : Int), .int .i64 (s : Int)] 49))
  have HW0 := Lib.hid (hW.nxt HB0.out)
  have HC0 := Lib.hid (Chg.of_below (G := [g]) HB0.out)
  have HZ0 := Lib.hid ((Blk.new W 45 #[.int .i64 1, .slice A nm cm, .int .i64 (o : Int), .int .i64 (R : Int), .int .i64 (R : Int), .int .i64 (L : Int), .slice (some ⟨g, 0, none⟩) n c, .int .i64 (o2 : Int), .int .i64 (R : Int), .int .i64 (C : Int), .int .i64 (L2 : Int)]).alloc (.cells #[.int .i64 (b : Int), .int .i64 (s : Int)] 49))
  have HJ0 := Lib.hid (Blk.new_ (W.alloc (.cells #[.int .i64 1, .slice A nm cm, .int .i64 (o : Int), .int .i64 (R : Int), .int .i64 (R : Int), .int .i64 (L : Int), .slice (some ⟨g, 0, none⟩) n c, .int .i64 (o2 : Int), .int .i64 (R : Int), .int .i64 (C : Int), .int .i64 (L2 : Int)] 45)) 49 #[.int .i64 (b : Int), .int .i64 (s : Int)] (W.heap.size + 1) (by simp))
  have Hg := Lib.hid (show g < W.heap.size from by obtain ⟨y, _, h, _⟩ := hW; exact h.lt)
  have HTi := Lib.hid (fun W' (h : TsW A o R L f g l o2 C L2 Z W') (h2 : Chg [g] W W') => tstimes_nat H 1 J (b + s) (R - (b + s)) b s hJ (by omega) (by omega) (.inr (Nat.le_refl _)) h (hc.trans h2))
  have hRb := H.hRb
  obtain ⟨t, ht⟩ : ∃ t, b + s = t := ⟨_, rfl⟩
  obtain ⟨m, hm⟩ : ∃ m, R - t = m := ⟨_, rfl⟩
  rw [ht, hm] at HTi
  rw [ht, hm]
  have w1 : wrap64 ((b : Int) + (s : Int)) = (t : Int) := by unfold wrap64; omega
  have w2 : IntKind.i64.wrap ((b : Int) + (s : Int)) = (t : Int) := by rw [wrapi (by omega) (by omega)]; omega
  have w3 : wrap64 ((R : Int) - (t : Int)) = (m : Int) := by unfold wrap64; omega
  have w4 : IntKind.i64.wrap ((R : Int) - (t : Int)) = (m : Int) := by rw [wrapi (by omega) (by omega)]; omega
  clear hW hc H hJ hb ht hm hRb
  obtain ⟨z0, z1, z2, z3, z4, z5, z6, z7, z8, z9, z10⟩ := cells11 HZ0.out
  obtain ⟨j0, j1⟩ := cells2j HJ0.out
  go_enter Try.func20, Try.ntmps20
  go_wp2_with fail
  go_quiet (fail)
  go_wp2_with fail
  refine (HTi.out _ (HW0.out.nxt (below_drewN (Below.refl _ _) _)) (HC0.out.drewN _)).mono ?_
  rintro e w9 ⟨rfl, h1, h2⟩
  have HE := Lib.hid (And.intro h1 ((HC0.out.drewN _).trans h2))
  clear h1 h2 z0 z1 z2 z3 z4 z5 z6 z7 z8 z9 z10 j0 j1 w1 w2 w3 w4
  go_wp2_with fail
  go_end0
  exact ⟨rfl, HE.out⟩

set_option maxRecDepth 100000 in
set_option maxHeartbeats 2000000 in
theorem tstake_up {w0 : World} {A : Option Addr} {nm cm o R L : Nat} {f : Nat → Nat → Nat} {g n c : Nat} {l : List Nat} {o2 C L2 : Nat} (H : TsH w0 A nm cm o R L f g n c l o2 C L2) (J b s : Nat) (hJ : J < C) (hb : b + s ≤ R) {x : Nat → Nat} {E : Nat → Nat → Nat} {F : Nat → Nat} (hS : TrS 2 R (trV 2 f) x E F) {Z : Nat → Nat → Nat} {W : World} (hW : TsW A o R L f g l o2 C L2 Z W) (hc : Chg [g] w0 W) (hZ : ∀ i, i < R → Z J i = tsM 2 R E F b s (b + s) i) :
    Calls Try.prog 20 #[.agg #[.int .i64 2, .slice A nm cm, .int .i64 (o : Int), .int .i64 (R : Int), .int .i64 (R : Int), .int .i64 (L : Int), .slice (some ⟨g, 0, none⟩) n c, .int .i64 (o2 : Int), .int .i64 (R : Int), .int .i64 (C : Int), .int .i64 (L2 : Int)], .agg #[.int .i64 (b : Int), .int .i64 (s : Int)], .int .i64 J] W fun e w' => e = .returned (.tuple #[]) ∧ TsW A o R L f g l o2 C L2 (fun j i => if j = J then tsM 2 R E F b s b i else Z j i) w' ∧ Chg [g] W w' := by
  have HB0 := Lib.hid (((Below.refl W.heap.size W).alloc (Nat.le_refl _) (.cells #[.int .i64 2, .slice A nm cm, .int .i64 (o : Int), .int .i64 (R : Int), .int .i64 (R : Int), .int .i64 (L : Int), .slice (some ⟨g, 0, none⟩) n c, .int .i64 (o2 : Int), .int .i64 (R : Int), .int .i64 (C : Int), .int .i64 (L2 : Int)] 45)).alloc (by simp) (.cells #[.int .i64 (b : Int), .int .i64 (s : Int)] 49))
  have HW0 := Lib.hid (hW.nxt HB0.out)
  have HC0 := Lib.hid (Chg.of_below (G := [g]) HB0.out)
  have HZ0 := Lib.hid ((Blk.new W 45 #[.int .i64 2, .slice A nm cm, .int .i64 (o : Int), .int .i64 (R : Int), .int .i64 (R : Int), .int .i64 (L : Int), .slice (some ⟨g, 0, none⟩) n c, .int .i64 (o2 : Int), .int .i64 (R : Int), .int .i64 (C : Int), .int .i64 (L2 : Int)]).alloc (.cells #[.int .i64 (b : Int), .int .i64 (s : Int)] 49))
  have HJ0 := Lib.hid (Blk.new_ (W.alloc (.cells #[.int .i64 2, .slice A nm cm, .int .i64 (o : Int), .int .i64 (R : Int), .int .i64 (R : Int), .int .i64 (L : Int), .slice (some ⟨g, 0, none⟩) n c, .int .i64 (o2 : Int), .int .i64 (R : Int), .int .i64 (C : Int), .int .i64 (L2 : Int)] 45)) 49 #[.int .i64 (b : Int), .int .i64 (s : Int)] (W.heap.size + 1) (by simp))
  have Hg := Lib.hid (show g < W.heap.size from by obtain ⟨y, _, h, _⟩ := hW; exact h.lt)
  have HTi := Lib.hid (fun k (hk : b ≤ k ∧ k < b + s) W' (h : TsW A o R L f g l o2 C L2 (fun j i => if j = J then tsM 2 R E F b s (k + 1) i else Z j i) W') (h2 : Chg [g] W W') =>
    show Calls Try.prog 37 #[.agg #[.int .i64 2, .slice A nm cm, .int .i64 (o : Int), .int .i64 (R : Int), .int .i64 (R : Int), .int .i64 (L : Int), .slice (some ⟨g, 0, none⟩) n c, .int .i64 (o2 : Int), .int .i64 (R : Int), .int .i64 (C : Int), .int .i64 (L2 : Int)], .agg #[.int .i64 0, .int .i64 (b : Int)], .agg #[.int .i64 (k : Int), .int .i64 1], .int .i64 J] W' fun e w' => e = .returned (.tuple #[]) ∧ TsW A o R L f g l o2 C L2 (fun j i => if j = J then tsM 2 R E F b s k i else Z j i) w' ∧ Chg [g] W w' ∧ Chg [g] W' w' from
      (tstimes_nat H 2 J 0 b k 1 hJ (by omega) (by omega) (.inl (by omega)) h (hc.trans h2)).mono fun e w' ⟨e1, e2, e3⟩ => ⟨e1, e2.congr (fun j hj i hi => by
        unfold tsZt
        by_cases e : j = J
        · subst e
          have h9 := tsM_up hS (p := i) hi hk.1 hk.2 (by omega)
          simp only [true_and, if_true] at h9 ⊢
          exact h9
        · simp [e]), h2.trans e3, e3⟩)
  have HW1 := Lib.hid (HW0.out.congr (Z' := fun j i => if j = J then tsM 2 R E F b s (b + s) i else Z j i) fun j hj i hi => by
    by_cases e : j = J
    · subst e; rw [if_pos rfl]; exact hZ i hi
    · rw [if_neg e])
  have hRb := H.hRb
  obtain ⟨t, ht⟩ : ∃ t, b + s = t := ⟨_, rfl⟩
  obtain ⟨z, hz⟩ : ∃ z : Int, (t : Int) - 1 = z := ⟨_, rfl⟩
  rw [ht] at HTi HW1
  have w1 : wrap64 ((b : Int) + (s : Int)) = (t : Int) := by unfold wrap64; omega
  have w2 : IntKind.i64.wrap ((b : Int) + (s : Int)) = (t : Int) := by rw [wrapi (by omega) (by omega)]; omega
  have w3 : wrap64 ((t : Int) - 1) = z := by unfold wrap64; omega
  have w4 : IntKind.i64.wrap ((t : Int) - 1) = z := by rw [wrapi (by omega) (by omega)]; omega
  have Ht := Lib.hid (show t < 1048576 ∧ b ≤ t ∧ (t : Int) - 1 = z from ⟨by omega, by omega, hz⟩)
  clear hW hc H hJ hb ht hz hRb hS hZ HW0
  obtain ⟨z0, z1, z2, z3, z4, z5, z6, z7, z8, z9, z10⟩ := cells11 HZ0.out
  obtain ⟨j0, j1⟩ := cells2j HJ0.out
  go_enter Try.func20, Try.ntmps20
  go_wp2_with fail
  go_quiet (fail)
  go_wp2_with fail
  clear z0 z1 z2 z3 z4 z5 z6 z7 z8 z9 z10 j0 j1 w1 w2 w3 w4
  go_loopw [8] (fun x wr => ∃ (k : Nat) (j : Int), x = .int .i64 j ∧ Hid (j = (k : Int) - 1 ∧ b ≤ k ∧ k ≤ t ∧ TsW A o R L f g l o2 C L2 (fun j i => if j = J then tsM 2 R E F b s k i else Z j i) wr ∧ Chg [g] W wr ∧ Blk wr W.heap.size 45 #[.int .i64 2, .slice A nm cm, .int .i64 (o : Int), .int .i64 (R : Int), .int .i64 (R : Int), .int .i64 (L : Int), .slice (some ⟨g, 0, none⟩) n c, .int .i64 (o2 : Int), .int .i64 (R : Int), .int .i64 (C : Int), .int .i64 (L2 : Int)] ∧ Blk wr (W.heap.size + 1) 49 #[.int .i64 (b : Int), .int .i64 (s : Int)])) (fun x _ => (intOf x + 1).toNat)
  case atStart => exact ⟨t, z, rfl, Lib.hid ⟨Ht.out.2.2.symm, Ht.out.2.1, Nat.le_refl _, HW1.out.nxt (below_drewN (Below.refl _ _) _), HC0.out.drewN _, HZ0.out.drewN _, HJ0.out.drewN _⟩⟩
  case round =>
    obtain ⟨k, j, rfl, HH⟩ := hrel
    obtain ⟨z0, z1, z2, z3, z4, z5, z6, z7, z8, z9, z10⟩ := cells11 HH.out.2.2.2.2.2.1
    obtain ⟨j0, j1⟩ := cells2j HH.out.2.2.2.2.2.2
    by_cases hlt : (b : Int) ≤ j
    · obtain ⟨p, rfl⟩ : ∃ p : Nat, j = (p : Int) := ⟨j.toNat, by omega⟩
      have hkp : k = p + 1 := by have := HH.out.1; omega
      subst hkp
      have hge : ¬ (p : Int) < (b : Int) := by omega
      have Hp := Lib.hid (show b ≤ p ∧ p < t from by have := HH.out.2.2.1; omega)
      have HTp := Lib.hid (HTi.out p Hp.out _ HH.out.2.2.2.1 HH.out.2.2.2.2.1)
      have hp9 : p ≤ 1048576 := by have := Hp.out; have := Ht.out; omega
      go_wp2_with fail
      refine HTp.out.mono ?_
      rintro e w9 ⟨rfl, h1, h2, h3⟩
      have hz0 : g < W.heap.size := Hg.out
      have HE := Lib.hid (show TsW A o R L f g l o2 C L2 (fun j i => if j = J then tsM 2 R E F b s p i else Z j i) w9 ∧ Chg [g] W w9 ∧ Blk w9 W.heap.size 45 _ ∧ Blk w9 (W.heap.size + 1) 49 _ from ⟨h1, h2, h3.blk (by simp; omega) HH.out.2.2.2.2.2.1, h3.blk (by simp; omega) HH.out.2.2.2.2.2.2⟩)
      clear h1 h2 h3 hz0 z0 z1 z2 z3 z4 z5 z6 z7 z8 z9 z10 j0 j1
      go_wp2_with fail
      go_roundw
      case rel => exact ⟨p, (p : Int) - 1, rfl, Lib.hid ⟨rfl, Hp.out.1, by have := Hp.out; omega, HE.out.1, HE.out.2.1, HE.out.2.2.1, HE.out.2.2.2⟩⟩
      case measure => simp [intOf] <;> omega
    · have hge : (j : Int) < (b : Int) := by omega
      have HE := Lib.hid (show TsW A o R L f g l o2 C L2 (fun j i => if j = J then tsM 2 R E F b s b i else Z j i) wr ∧ Chg [g] W wr from by
        have e : k = b := by have := HH.out.1; have := HH.out.2.1; omega
        rw [e] at HH
        exact ⟨HH.out.2.2.2.1, HH.out.2.2.2.2.1⟩)
      go_wp2_with fail
      go_end0
      exact ⟨rfl, HE.out⟩
end Go.Proofs.Ytcdhpoikppfjkaa
/-
Contracts of Go's library at this program, out of the library's shelf. Conditions: as each says.
-/
namespace Go.Proofs
open Go.Shelf
def Try.lays189_ren : Go.Shelf.Ren := ⟨fun | 189 => 70 | 125 => 79 | 257 => 78 | 128 => 89 | 129 => 90 | 294 => 80 | 295 => 81 | 296 => 82 | 297 => 83 | 298 => 84 | 299 => 85 | 216 => 86 | 300 => 87 | 301 => 88 | 328 => 91 | 329 => 92 | 330 => 93 | 331 => 94 | 332 => 95 | 215 => 96 | 343 => 97 | n => n, fun | 28 => 91 | 3 => 3 | 46 => 88 | 0 => 0 | 51 => 119 | 53 => 71 | 4 => 4 | 183 => 112 | 182 => 111 | 131 => 116 | 5 => 5 | 9 => 9 | 218 => 121 | 222 => 125 | 228 => 127 | 229 => 35 | n => n, fun | n => n⟩
theorem Try.lays189 : Go.Proofs.Lays.n189 Try.prog Try.lays189_ren := {
  mixed := by kernel_rfl
  f125 := Try.func79.trans (congrArg some (by kernel_rfl))
  f128 := Try.func89.trans (congrArg some (by kernel_rfl))
  f129 := Try.func90.trans (congrArg some (by kernel_rfl))
  f189 := Try.func70.trans (congrArg some (by kernel_rfl))
  f215 := Try.func96.trans (congrArg some (by kernel_rfl))
  f216 := Try.func86.trans (congrArg some (by kernel_rfl))
  f257 := Try.func78.trans (congrArg some (by kernel_rfl))
  f294 := Try.func80.trans (congrArg some (by kernel_rfl))
  f295 := Try.func81.trans (congrArg some (by kernel_rfl))
  f296 := Try.func82.trans (congrArg some (by kernel_rfl))
  f297 := Try.func83.trans (congrArg some (by kernel_rfl))
  f298 := Try.func84.trans (congrArg some (by kernel_rfl))
  f299 := Try.func85.trans (congrArg some (by kernel_rfl))
  f300 := Try.func87.trans (congrArg some (by kernel_rfl))
  f301 := Try.func88.trans (congrArg some (by kernel_rfl))
  f328 := Try.func91.trans (congrArg some (by kernel_rfl))
  f329 := Try.func92.trans (congrArg some (by kernel_rfl))
  f330 := Try.func93.trans (congrArg some (by kernel_rfl))
  f331 := Try.func94.trans (congrArg some (by kernel_rfl))
  f332 := Try.func95.trans (congrArg some (by kernel_rfl))
  f343 := Try.func97.trans (congrArg some (by kernel_rfl))
  t0 := Try.underlying0
  a0 := Try.isAgg0
  z0 := Try.sizeOf0
  v0 := Try.zeroValue0
  t3 := Try.underlying3
  a3 := Try.isAgg3
  z3 := Try.sizeOf3
  v3 := Try.zeroValue3
  t4 := Try.underlying4
  a4 := Try.isAgg4
  z4 := Try.sizeOf4
  v4 := Try.zeroValue4
  t5 := Try.underlying5
  a5 := Try.isAgg5
  z5 := Try.sizeOf5
  v5 := Try.zeroValue5
  t9 := Try.underlying9
  a9 := Try.isAgg9
  z9 := Try.sizeOf9
  v9 := Try.zeroValue9
  t28 := Try.underlying91
  a28 := Try.isAgg91
  z28 := Try.sizeOf91
  v28 := Try.zeroValue91
  t46 := Try.underlying88
  a46 := Try.isAgg88
  z46 := Try.sizeOf88
  v46 := Try.zeroValue88
  t51 := Try.underlying119
  a51 := Try.isAgg119
  z51 := Try.sizeOf119
  v51 := Try.zeroValue119
  t53 := Try.underlying71
  a53 := Try.isAgg71
  z53 := Try.sizeOf71
  v53 := Try.zeroValue71
  t131 := Try.underlying116
  a131 := Try.isAgg116
  z131 := Try.sizeOf116
  v131 := Try.zeroValue116
  t182 := Try.underlying111
  a182 := Try.isAgg111
  z182 := Try.sizeOf111
  v182 := Try.zeroValue111
  t183 := Try.underlying112
  a183 := Try.isAgg112
  z183 := Try.sizeOf112
  v183 := Try.zeroValue112
  t218 := Try.underlying121
  a218 := Try.isAgg121
  z218 := Try.sizeOf121
  v218 := Try.zeroValue121
  t222 := Try.underlying125
  a222 := Try.isAgg125
  z222 := Try.sizeOf125
  v222 := Try.zeroValue125
  t228 := Try.underlying127
  a228 := Try.isAgg127
  z228 := Try.sizeOf127
  v228 := Try.zeroValue127
  t229 := Try.underlying35
  a229 := Try.isAgg35
  z229 := Try.sizeOf35
  v229 := Try.zeroValue35 }
open Go.Sort Go.RowKit in
theorem Try.slices_Sort_int (blk off cap : Nat) (zs : List Int) (w : World) (hH : Holds (Value.int .i64) w blk off zs.toArray) (hblk : blk < w.heap.size) (hsz : zs.length < 4611686018427387904) :
    Calls Try.prog 70 #[.slice (some ⟨blk, off, none⟩) zs.length cap] w fun e w' =>
      e = .returned (.tuple #[]) ∧ ∃ n os, w' = grow (putRow (Value.int .i64) (Sort.ahead w n) blk off (zs.mergeSort fun x y => decide (x ≤ y)).toArray) os := Any.slices_Sort_int Try.lays189 blk off cap zs w hH hblk hsz
def Try.laysNm220_ren : Go.Shelf.Ren := ⟨fun | 20 => 71 | n => n, fun | 22 => 91 | 3 => 3 | 4 => 4 | 0 => 0 | n => n, fun | n => n⟩
theorem Try.laysNm220 : Go.Proofs.Lays2.n20 Try.prog Try.laysNm220_ren := {
  mixed := by kernel_rfl
  f20 := Try.func71.trans (congrArg some (by kernel_rfl))
  t0 := Try.underlying0
  a0 := Try.isAgg0
  z0 := Try.sizeOf0
  v0 := Try.zeroValue0
  t3 := Try.underlying3
  a3 := Try.isAgg3
  z3 := Try.sizeOf3
  v3 := Try.zeroValue3
  t4 := Try.underlying4
  a4 := Try.isAgg4
  z4 := Try.sizeOf4
  v4 := Try.zeroValue4
  t22 := Try.underlying91
  a22 := Try.isAgg91
  z22 := Try.sizeOf91
  v22 := Try.zeroValue91
  i3 := by kernel_rfl }
open Go.RowKit Go.Lib Go.Sort in
/-- slices.Compact at []int: "Compact replaces consecutive runs of equal elements with a single copy. This is like the uniq command found on Unix. Compact modifies the contents of the slice s and returns the modified slice, which may have a smaller length. Compact zeroes the elements between the new length and the original length. The result preserves the nilness of s.": IT RETURNS THE SLICE CUT TO 'Lib.compact zs'; ITS CELLS HOLD 'Lib.compact zs', THEN ZERO VALUES up to the old length; all else is as it was, but for the count of draws. IN THE WORDS OF slices.Sort's CONTRACT ('Holds', 'putRow'): so the everyday 'slices.Sort(xs); xs = slices.Compact(xs)' goes from the one contract to the other. It asks 'zs.length ≤ cap' (every slice's: the reslicing 's[:k]' looks at it). Length 0, nil: '.._empty'. (LAID: no walk: one application.) -/
theorem Try.slices_Compact_int (blk off cap : Nat) (zs : List Int) (w : World) (hH : Holds (Value.int .i64) w blk off zs.toArray) (hsz : zs.length ≤ 9223372036854775807) (hcap : zs.length ≤ cap) :
    Calls Try.prog 71 #[.slice (some ⟨blk, off, none⟩) zs.length cap] w fun e w' => e = .returned (.slice (some ⟨blk, off, none⟩) (Lib.compact zs).length cap) ∧ ∃ q, w' = putRow (Value.int .i64) (Sort.ahead w q) blk off (Lib.compact zs ++ List.replicate (zs.length - (Lib.compact zs).length) 0).toArray := Any.slices_Compact_int Try.laysNm220 blk off cap zs w hH hsz hcap
end Go.Proofs
/-
Where places are cut: the program's list. Conditions: 1 to 4096 places, blocks of at least 1, at most 50 more.
-/
set_option linter.unusedVariables false
set_option linter.unusedSimpArgs false
namespace Go.Proofs.Ytcdhpoikppfjkaa
open Go.RowKit Go.Sort
attribute [local go_sem ↓] Go.wp_at_zero Go.wp_at_succ

theorem i64s_length (l : List Int) : (i64s l).length = l.length := by simp [i64s]
theorem i64s_snoc (l : List Int) (x : Int) : i64s (l ++ [x]) = i64s l ++ [.int .i64 x] := by simp [i64s]
theorem info_i64 : (Try.prog.info? 3).map (fun i => (i.zero, i.size, i.bytes)) = some (some (.int .i64 0), 1, 8) := by kernel_rfl
theorem ii0 : ∃ i, Try.prog.info? 3 = some i ∧ i.zero = some (.int .i64 0) ∧ i.size = 1 ∧ i.bytes = 8 := by
  obtain ⟨i, hi, h⟩ := Option.map_eq_some_iff.1 info_i64
  simp only [Prod.mk.injEq] at h
  exact ⟨i, hi, h.1, h.2.1, h.2.2⟩
theorem own_one (w : World) (t : TypeId) (v : Value) : (w.alloc (.cells #[v] t)).ownsRow w.heap.size t 1 (.slice (some ⟨w.heap.size, 0, none⟩) 1 1) 1 [v] :=
  ⟨rfl, .inr ⟨w.heap.size, 1, #[v], rfl, Nat.le_refl _, heap_alloc_new w _, Nat.le_refl _, by unfold maxLen; omega, rfl, rfl⟩⟩
theorem below_put {α : Type} [Inhabited α] (enc : α → Value) (w : World) (g m : Nat) (d : Array α) (os : Array Obj) (hb : g < w.heap.size) : Below g w (grow (putRow enc (Sort.ahead w m) g 0 d) os) := by
  refine ⟨rfl, rfl, rfl, ?_, fun q hq => ?_⟩
  · show w.heap.size ≤ (grow (putRow enc (Sort.ahead w m) g 0 d) os).heap.size
    unfold grow
    rw [Array.size_append, size_putRow]
    exact Nat.le_add_right _ _
  · show ((putRow enc (Sort.ahead w m) g 0 d).heap ++ os)[q]? = _
    have hs : (putRow enc (Sort.ahead w m) g 0 d).heap.size = w.heap.size := by rw [size_putRow]; rfl
    rw [Array.getElem?_append_left (by omega)]
    show (w.heap.modify g _)[q]? = _
    rw [Array.getElem?_modify, if_neg (by omega)]
theorem blk_put {α : Type} [Inhabited α] {w : World} {g : Nat} {t : TypeId} {cur : Array Value} (h : Blk w g t cur) (enc : α → Value) (m : Nat) (d : Array α) (os : Array Obj) : Blk (grow (putRow enc (Sort.ahead w m) g 0 d) os) g t (putCells enc 0 d cur) := by
  have hl := h.lt
  unfold Blk at *
  show ((putRow enc (Sort.ahead w m) g 0 d).heap ++ os)[g]? = _
  have hs : (putRow enc (Sort.ahead w m) g 0 d).heap.size = w.heap.size := by rw [size_putRow]; rfl
  rw [Array.getElem?_append_left (by omega)]
  show (w.heap.modify g _)[g]? = _
  rw [Array.getElem?_modify, if_pos rfl, h]
  rfl
theorem put_take (d : List Int) (cur : Array Value) (h : d.length ≤ cur.size) : (putCells (Value.int .i64) 0 d.toArray cur).toList.take d.length = i64s d := by
  apply List.ext_getElem?
  intro j
  rw [List.getElem?_take]
  by_cases hj : j < d.length
  · rw [if_pos hj, Array.getElem?_toList]
    unfold putCells
    rw [Array.getElem?_mapIdx, Array.getElem?_eq_getElem (by omega), i64s_get d j hj]
    simp [hj]
  · rw [if_neg hj, List.getElem?_eq_none (by rw [i64s_length]; omega)]
theorem holds_of {w : World} {g : Nat} {t : TypeId} {cs : Array Value} {zs : List Int} (hB : Blk w g t cs) (ht : cs.toList.take zs.length = i64s zs) : Go.Sort.Holds (Value.int .i64) w g 0 zs.toArray := fun j hj => by
  have hj' : j < zs.length := by simpa using hj
  refine ⟨?_, hB.frozen _⟩
  have e := congrArg (fun l => l[j]?) ht
  simp only [List.getElem?_take, if_pos hj', Array.getElem?_toList] at e
  rw [Nat.zero_add, hB.cell j, e, i64s_get zs j hj', getElem!_pos zs.toArray j hj]
  simp
/-- slices.Sort at a list of the call's own. -/
theorem sort_own {w : World} {g cap : Nat} {t : TypeId} {cs : Array Value} {zs : List Int} (hB : Blk w g t cs) (ht : cs.toList.take zs.length = i64s zs) (hz : zs.length < 1048576) (hc : zs.length ≤ cs.size) :
    Calls Try.prog 70 #[.slice (some ⟨g, 0, none⟩) zs.length cap] w fun e w' => e = .returned (.tuple #[]) ∧ ∃ cs', Blk w' g t cs' ∧ cs'.size = cs.size ∧ cs'.toList.take zs.length = i64s (zs.mergeSort fun x y => decide (x ≤ y)) ∧ Below g w w' := by
  have hl : (zs.mergeSort fun x y => decide (x ≤ y)).length = zs.length := List.length_mergeSort zs
  refine (Try.slices_Sort_int g 0 cap zs w (holds_of hB ht) hB.lt (by omega)).mono ?_
  rintro e w' ⟨rfl, n, os, rfl⟩
  refine ⟨rfl, _, blk_put hB _ n _ os, by simp [putCells], ?_, below_put _ w g n _ os hB.lt⟩
  rw [← hl]
  exact put_take _ cs (by omega)
theorem compact_len (zs : List Int) : (Lib.compact zs).length ≤ zs.length := by
  unfold Lib.compact Lib.compactUpTo
  rw [List.length_map]
  exact Nat.le_trans (List.length_filter_le _ _) (by simp)
/-- slices.Compact at a list of the call's own. -/
theorem compact_own {w : World} {g cap : Nat} {t : TypeId} {cs : Array Value} {zs : List Int} (hB : Blk w g t cs) (ht : cs.toList.take zs.length = i64s zs) (hz : zs.length < 1048576) (hc : zs.length ≤ cs.size) (hcap : zs.length ≤ cap) :
    Calls Try.prog 71 #[.slice (some ⟨g, 0, none⟩) zs.length cap] w fun e w' => e = .returned (.slice (some ⟨g, 0, none⟩) (Lib.compact zs).length cap) ∧ Row w' (some ⟨g, 0, none⟩) (i64s (Lib.compact zs)) ∧ Below g w w' := by
  have hl := compact_len zs
  refine (Try.slices_Compact_int g 0 cap zs w (holds_of hB ht) (by omega) hcap).mono ?_
  rintro e w' ⟨rfl, q, rfl⟩
  have hb := below_put (Value.int .i64) w g q (Lib.compact zs ++ List.replicate (zs.length - (Lib.compact zs).length) 0).toArray #[] hB.lt
  have hk := blk_put hB (Value.int .i64) q (Lib.compact zs ++ List.replicate (zs.length - (Lib.compact zs).length) 0).toArray #[]
  rw [grow_empty] at hb hk
  refine ⟨rfl, .inr ⟨g, 0, rfl, fun i v hi => ?_⟩, hb⟩
  have hp := put_take (Lib.compact zs ++ List.replicate (zs.length - (Lib.compact zs).length) 0) cs (by simp; omega)
  have hi2 : i < (Lib.compact zs).length := by
    have := (List.getElem?_eq_some_iff.1 hi).1
    rwa [i64s_length] at this
  have e := congrArg (fun l => l[i]?) hp
  simp only [List.getElem?_take, if_pos (show i < (Lib.compact zs ++ List.replicate (zs.length - (Lib.compact zs).length) 0).length by simp; omega), Array.getElem?_toList] at e
  rw [Nat.zero_add, hk.cell i, e, ← hi]
  unfold i64s
  rw [List.map_append, List.getElem?_append_left (by simpa using hi2)]
end Go.Proofs.Ytcdhpoikppfjkaa
