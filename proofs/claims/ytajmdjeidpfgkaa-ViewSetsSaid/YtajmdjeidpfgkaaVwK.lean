/-
ViewSets, the rest. Conditions: the list's words are below 2^64.
-/
import Derived.Test.YtajmdjeidpfgkaaVwJ
set_option linter.unusedVariables false
namespace Go.Proofs.Ytajmdjeidpfgkaa
open Go.RowKit
attribute [local go_sem ↓] Go.wp_at_zero Go.wp_at_succ

theorem rall_n (A B : Option Addr) (c d : Nat) (x y : List Nat) (n m : Nat) (w : World) (hx : Wds x) (hy : Wds y) (hA : Row w A (f64s x)) (hB : Row w B (f64s y)) (hl : x.length < 9223372036854775808) (h : Alike x y) (hn : x.length = n) (hm : y.length = m) :
    Calls Try.prog 15 #[.slice A n c, .slice B m d] w fun e w' => e = .returned (.bool true) ∧ Below w.heap.size w w' := by
  subst hn hm
  exact rall_any A B c d x y w hx hy hA hB hl h

set_option maxHeartbeats 1000000 in
theorem viewSets_there (A : Option Addr) (c : Nat) (l : List Nat) (off r k ld i j : Int) (v : Nat) (w : World) (hA : Row w A (f64s l)) (hW : Wds l) (hlen : l.length ≤ 1000) (ho : I64 off) (hr : I64 r) (hk : I64 k) (hi : I64 ld) (hv : v < 18446744073709551616) (ht : thereB l.length off r k ld i j = true) :
    Calls Try.prog 4 #[mat A l.length c off r k ld, .int .i64 i, .int .i64 j, .float .f64 v] w fun e w' => e = .returned (.bool true) ∧ Below w.heap.size w w' := by
  have HCp := Lib.hid (fun W (h : Row W A (f64s l)) => rcopy_any A c l W h (by omega))
  have HAp := Lib.hid (fun W (h : Row W A (f64s l)) => rapart_any A c l off r k ld W h (by omega))
  have HGd := Lib.hid (fun W => rgood_any A l.length c off r k ld W (by omega) ho hr hk hi)
  have HA := Lib.hid hA
  have HWd := Lib.hid hW
  have HLen := Lib.hid hlen
  have h1000 : ¬ (1000 : Int) < (l.length : Int) := by omega
  obtain ⟨p, hp, hpn, q1, q2, q3⟩ := there_place ht
  have HSet := Lib.hid (fun W (g c : Nat) (h : Own W g l) => set_there g c l off r k ld i j v p W h (by omega) ho hr hk hi ht hp)
  have HWs := Lib.hid (show Wds (l.set p v) from fun b hb => by
    rcases List.mem_or_eq_of_mem_set hb with h | h
    · exact hW b h
    · omega)
  have HP := Lib.hid hpn
  unfold I64 at ho hr hk hi
  have HV := Lib.hid (show IntKind.i64.wrap (off + i) = off + i ∧ IntKind.i64.wrap (j * ld) = j * ld ∧ IntKind.i64.wrap (p : Int) = (p : Int) from ⟨wrapi (by omega) (by omega), wrapi (by omega) (by omega), wrapi (by omega) (by omega)⟩)
  have HU := Lib.hid (show wrap64 (off + i) = off + i ∧ wrap64 (p : Int) = (p : Int) from ⟨by unfold wrap64; omega, by unfold wrap64; omega⟩)
  have HPn := Lib.hid (show (p : Int) < (l.length : Int) from Int.ofNat_lt.2 hpn)
  have hm : matB l.length off r k ld = true ∧ 0 ≤ i ∧ i < r ∧ 0 ≤ j ∧ j < k := by
    unfold thereB at ht
    simp only [Bool.and_eq_true, decide_eq_true_eq] at ht
    exact ⟨ht.1.1, ht.1.2.1, ht.1.2.2, ht.2.1, ht.2.2⟩
  obtain ⟨hm, hi0, hir, hj0, hjk⟩ := hm
  rw [hm] at HGd
  have HHp := Lib.hid hp
  clear hA hW hlen ho hr hk hi ht hm q1 q2 q3 hpn
  unfold mat at *
  go_enter Try.func4, Try.ntmps4
  go_wp2_with fail
  refine (awake_any _).mono ?_
  rintro e w1 ⟨rfl, hb1⟩
  have HZ := Lib.hid ((Blk.new w 26 #[.slice A l.length c, .int .i64 off, .int .i64 r, .int .i64 k, .int .i64 ld]).nxt hb1)
  have HB1 := Lib.hid (((Below.refl w.heap.size w).alloc (Nat.le_refl _) (.cells #[.slice A l.length c, .int .i64 off, .int .i64 r, .int .i64 k, .int .i64 ld] 26)).trans (hb1.mono (by simp)))
  obtain ⟨c0, c1, c2, c3, c4⟩ := cells5 HZ.out
  clear hb1
  go_wp2_with fail
  refine (HCp.out _ (HA.out.below HB1.out)).mono ?_
  rintro e w2 ⟨gW, cW, rfl, ho2, hg2, hc2, hm2, hb2⟩
  have HZ2 := Lib.hid (HZ.out.nxt hb2)
  have HB2 := Lib.hid (HB1.out.trans (hb2.mono HB1.out.size))
  have HO2 := Lib.hid ho2
  clear c0 c1 c2 c3 c4 ho2 hb2
  obtain ⟨c0, c1, c2, c3, c4⟩ := cells5 HZ2.out
  go_wp2_with fail
  refine (HAp.out _ (HA.out.below HB2.out)).mono ?_
  rintro e w3 ⟨gN, cN, rfl, ho3, hg3, hc3, hm3, hb3⟩
  have hlt2 := HO2.out.lt
  have hne : gW ≠ gN := by omega
  have HNe := Lib.hid hne
  have HZ3 := Lib.hid ((HZ2.out.nxt hb3).alloc (.cells #[.slice (some ⟨gN, 0, none⟩) l.length cN, .int .i64 off, .int .i64 r, .int .i64 k, .int .i64 ld] 26))
  have HB3 := Lib.hid ((HB2.out.trans (hb3.mono HB2.out.size)).alloc (HB2.out.trans (hb3.mono HB2.out.size)).size (.cells #[.slice (some ⟨gN, 0, none⟩) l.length cN, .int .i64 off, .int .i64 r, .int .i64 k, .int .i64 ld] 26))
  have HW3 := Lib.hid ((HO2.out.nxt hb3).nxt ((Below.refl w3.heap.size w3).alloc (Nat.le_refl _) (.cells #[.slice (some ⟨gN, 0, none⟩) l.length cN, .int .i64 off, .int .i64 r, .int .i64 k, .int .i64 ld] 26)))
  have HN3 := Lib.hid (ho3.nxt ((Below.refl w3.heap.size w3).alloc (Nat.le_refl _) (.cells #[.slice (some ⟨gN, 0, none⟩) l.length cN, .int .i64 off, .int .i64 r, .int .i64 k, .int .i64 ld] 26)))
  have HQ3 := Lib.hid (Blk.new w3 26 #[.slice (some ⟨gN, 0, none⟩) l.length cN, .int .i64 off, .int .i64 r, .int .i64 k, .int .i64 ld])
  have HL3 := Lib.hid (show gN < w3.heap.size from ho3.lt)
  have HG3 := Lib.hid hg3
  have HG2 := Lib.hid hg2
  clear c0 c1 c2 c3 c4 ho3 hb3 hg3 hg2 hne hlt2 hc3 hm3 hc2 hm2
  obtain ⟨c0, c1, c2, c3, c4⟩ := cells5 HZ3.out
  obtain ⟨d0, d1, d2, d3, d4⟩ := cells5 HQ3.out
  go_wp2_with fail
  generalize hq : w3.heap.size = q at *
  generalize w3.alloc (.cells #[.slice (some ⟨gN, 0, none⟩) l.length cN, .int .i64 off, .int .i64 r, .int .i64 k, .int .i64 ld] 26) = W3 at *
  refine (HSet.out _ gN cN HN3.out).mono ?_
  rintro e w4 ⟨rfl, hn4, hO4⟩
  have hzN : w.heap.size ≠ gN := by have := HB2.out.size; have := HG3.out; have := HZ2.out.lt; omega
  have hqN : q ≠ gN := by have := HL3.out; omega
  have HZ4 := Lib.hid (hO4.blk hzN HZ3.out)
  have HQ4 := Lib.hid (hO4.blk hqN HQ3.out)
  have HB4 := Lib.hid (hO4.below HB3.out (by have := HB3.out.size; exact this) (by have := HG3.out; have := HB2.out.size; omega))
  have HW4 := Lib.hid (HW3.out.only hO4 HNe.out)
  have HN4 := Lib.hid hn4
  clear c0 c1 c2 c3 c4 d0 d1 d2 d3 d4 hn4 hO4
  obtain ⟨c0, c1, c2, c3, c4⟩ := cells5 HZ4.out
  go_wp2_with fail
  refine (HGd.out _).mono ?_
  rintro e w5 ⟨rfl, hb5⟩
  have HZ5 := Lib.hid (HZ4.out.nxt hb5)
  have HQ5 := Lib.hid (HQ4.out.nxt hb5)
  have HB5 := Lib.hid (HB4.out.trans (hb5.mono HB4.out.size))
  have HW5 := Lib.hid (HW4.out.nxt hb5)
  have HN5 := Lib.hid (HN4.out.nxt hb5)
  clear c0 c1 c2 c3 c4 hb5
  obtain ⟨c0, c1, c2, c3, c4⟩ := cells5 HZ5.out
  have x0 := HW5.out.get p HP.out
  have x1 := HW5.out.frozen p
  have HW6 := Lib.hid (HW5.out.set_ p v HP.out)
  have hqW : q ≠ gW := by have := HO2.out.lt; have := HG3.out; have := HL3.out; omega
  have hNW := HNe.out
  have HN6 := Lib.hid (HN5.out.other (p := ⟨gW, p, none⟩) (fun e => HNe.out e.symm) (.float .f64 v))
  have HQ6 := Lib.hid (HQ5.out.other (p := ⟨gW, p, none⟩) hqW (.float .f64 v))
  have HB6 := Lib.hid (HB5.out.setCell (p := ⟨gW, p, none⟩) (by have := HG2.out; have := HB1.out.size; show _ ≤ gW; omega) (.float .f64 v))
  obtain ⟨d0, d1, d2, d3, d4⟩ := cells5 HQ5.out
  obtain ⟨v1, v2, v3⟩ := HV.out
  obtain ⟨u1, u3⟩ := HU.out
  have hpn2 := HPn.out
  have hqW2 : gW ≠ q := fun e => hqW e.symm
  go_upto_region 11 with fail
  generalize w5.setCell ⟨gW, p, none⟩ (.float .f64 v) = W6 at *
  clear c0 c1 c2 c3 c4 d0 d1 d2 d3 d4 x0 x1 v1 v2 v3 u1 u3
  obtain ⟨d0, d1, d2, d3, d4⟩ := cells5 HQ6.out
  go_wp2_with fail
  refine (rall_n _ _ cN cW (l.set p v) (l.set p v) l.length l.length _ HWs.out HWs.out HN6.out.row HW6.out.row (by have := HLen.out; simp; omega) (Alike.refl _) List.length_set List.length_set).mono ?_
  rintro e w6 ⟨rfl, hb6⟩
  have HB7 := Lib.hid (HB6.out.trans (hb6.mono HB6.out.size))
  clear hb6
  go_wp2_with fail
  refine (awake_any _).mono ?_
  rintro e w7 ⟨rfl, hb7⟩
  go_wp2_with fail
  go_ret
  exact ⟨rfl, HB7.out.trans (hb7.mono HB7.out.size)⟩

theorem viewSets_walk (A : Option Addr) (c : Nat) (l : List Nat) (off r k ld i j : Int) (v : Nat) (w : World) (hA : Row w A (f64s l)) (hW : Wds l) (ho : I64 off) (hr : I64 r) (hk : I64 k) (hi : I64 ld) (hv : v < 18446744073709551616) :
    Calls Try.prog 4 #[mat A l.length c off r k ld, .int .i64 i, .int .i64 j, .float .f64 v] w fun e w' => e = .returned (.bool true) ∧ Below w.heap.size w w' := by
  by_cases h : 1000 < l.length
  · exact viewSets_long A _ c off r k ld i j v w h
  cases ht : thereB l.length off r k ld i j
  · exact viewSets_none A c l off r k ld i j v w hA hW (by omega) ho hr hk hi ht
  · exact viewSets_there A c l off r k ld i j v w hA hW (by omega) ho hr hk hi hv ht
end Go.Proofs.Ytajmdjeidpfgkaa
