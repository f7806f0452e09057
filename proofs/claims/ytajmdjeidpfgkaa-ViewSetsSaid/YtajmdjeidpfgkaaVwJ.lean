/-
ViewSets. Conditions: the list's words are below 2^64.
-/
import Derived.Test.YtajmdjeidpfgkaaVwI
set_option linter.unusedVariables false
namespace Go.Proofs.Ytajmdjeidpfgkaa
open Go.RowKit
attribute [local go_sem ↓] Go.wp_at_zero Go.wp_at_succ

theorem viewSets_long (A : Option Addr) (n c : Nat) (off r k ld i j : Int) (v : Nat) (w : World) (h : 1000 < n) :
    Calls Try.prog 4 #[mat A n c off r k ld, .int .i64 i, .int .i64 j, .float .f64 v] w fun e w' => e = .returned (.bool true) ∧ Below w.heap.size w w' := by
  have h1 : (1000 : Int) < (n : Int) := by omega
  unfold mat
  go_enter Try.func4, Try.ntmps4
  go_wp2_with fail
  refine (awake_any _).mono ?_
  rintro e w1 ⟨rfl, hb1⟩
  obtain ⟨c0, c1, c2, c3, c4⟩ := cells5 ((Blk.new w 26 #[.slice A n c, .int .i64 off, .int .i64 r, .int .i64 k, .int .i64 ld]).nxt hb1)
  have HB1 := Lib.hid (((Below.refl w.heap.size w).alloc (Nat.le_refl _) (.cells #[.slice A n c, .int .i64 off, .int .i64 r, .int .i64 k, .int .i64 ld] 26)).trans (hb1.mono (by simp)))
  clear hb1
  go_wp2_with fail
  refine (awake_any _).mono ?_
  rintro e w2 ⟨rfl, hb2⟩
  go_wp2_with fail
  go_ret
  exact ⟨rfl, HB1.out.trans (hb2.mono HB1.out.size)⟩

theorem there_why {n : Nat} {off r k ld i j : Int} (h : thereB n off r k ld i j = false) : matB n off r k ld = false ∨ matB n off r k ld = true ∧ (i < 0 ∨ (0 ≤ i ∧ j < 0) ∨ (0 ≤ i ∧ 0 ≤ j ∧ r ≤ i) ∨ (0 ≤ i ∧ 0 ≤ j ∧ i < r ∧ k ≤ j)) := by
  unfold thereB at h
  cases hm : matB n off r k ld
  · exact .inl rfl
  · refine .inr ⟨rfl, ?_⟩
    rw [hm] at h
    simp at h
    omega

set_option maxHeartbeats 2000000 in
theorem viewSets_none (A : Option Addr) (c : Nat) (l : List Nat) (off r k ld i j : Int) (v : Nat) (w : World) (hA : Row w A (f64s l)) (hW : Wds l) (hlen : l.length ≤ 1000) (ho : I64 off) (hr : I64 r) (hk : I64 k) (hi : I64 ld) (ht : thereB l.length off r k ld i j = false) :
    Calls Try.prog 4 #[mat A l.length c off r k ld, .int .i64 i, .int .i64 j, .float .f64 v] w fun e w' => e = .returned (.bool true) ∧ Below w.heap.size w w' := by
  have HCp := Lib.hid (fun W (h : Row W A (f64s l)) => rcopy_any A c l W h (by omega))
  have HAp := Lib.hid (fun W (h : Row W A (f64s l)) => rapart_any A c l off r k ld W h (by omega))
  have HGd := Lib.hid (fun W => rgood_any A l.length c off r k ld W (by omega) ho hr hk hi)
  have HA := Lib.hid hA
  have HWd := Lib.hid hW
  have HLen := Lib.hid hlen
  have h1000 : ¬ (1000 : Int) < (l.length : Int) := by omega
  have HSet := Lib.hid (fun W (g c : Nat) => set_none (some ⟨g, 0, none⟩) l.length c off r k ld i j v W (by omega) ho hr hk hi ht)
  have hwhy := there_why ht
  generalize matB l.length off r k ld = x at *
  clear hA hW hlen ho hr hk hi ht
  unfold mat at *
  go_enter Try.func4, Try.ntmps4
  go_wp2_with fail
  refine (awake_any _).mono ?_
  rintro e w1 ⟨rfl, hb1⟩
  have HZ := Lib.hid ((Blk.new w 26 #[.slice A l.length c, .int .i64 off, .int .i64 r, .int .i64 k, .int .i64 ld]).nxt hb1)
  have HB1 := Lib.hid (((Below.refl w.heap.size w).alloc (Nat.le_refl _) (.cells #[.slice A l.length c, .int .i64 off, .int .i64 r, .int .i64 k, .int .i64 ld] 26)).trans (hb1.mono (by simp)))
  obtain ⟨c0, c1, c2, c3, c4⟩ := cells5 HZ.out
  clear hb1
  go_wp2_with fail
  refine (HCp.out _ (HA.out.below HB1.out)).mono ?_
  rintro e w2 ⟨gW, cW, rfl, ho2, hg2, hc2, hm2, hb2⟩
  have HZ2 := Lib.hid (HZ.out.nxt hb2)
  have HB2 := Lib.hid (HB1.out.trans (hb2.mono HB1.out.size))
  have HO2 := Lib.hid ho2
  clear c0 c1 c2 c3 c4 ho2 hb2
  obtain ⟨c0, c1, c2, c3, c4⟩ := cells5 HZ2.out
  go_wp2_with fail
  refine (HAp.out _ (HA.out.below HB2.out)).mono ?_
  rintro e w3 ⟨gN, cN, rfl, ho3, hg3, hc3, hm3, hb3⟩
  have hlt2 := HO2.out.lt
  have hne : gW ≠ gN := by omega
  have HNe := Lib.hid hne
  have HZ3 := Lib.hid ((HZ2.out.nxt hb3).alloc (.cells #[.slice (some ⟨gN, 0, none⟩) l.length cN, .int .i64 off, .int .i64 r, .int .i64 k, .int .i64 ld] 26))
  have HB3 := Lib.hid ((HB2.out.trans (hb3.mono HB2.out.size)).alloc (HB2.out.trans (hb3.mono HB2.out.size)).size (.cells #[.slice (some ⟨gN, 0, none⟩) l.length cN, .int .i64 off, .int .i64 r, .int .i64 k, .int .i64 ld] 26))
  have HW3 := Lib.hid ((HO2.out.nxt hb3).nxt ((Below.refl w3.heap.size w3).alloc (Nat.le_refl _) (.cells #[.slice (some ⟨gN, 0, none⟩) l.length cN, .int .i64 off, .int .i64 r, .int .i64 k, .int .i64 ld] 26)))
  have HN3 := Lib.hid (ho3.nxt ((Below.refl w3.heap.size w3).alloc (Nat.le_refl _) (.cells #[.slice (some ⟨gN, 0, none⟩) l.length cN, .int .i64 off, .int .i64 r, .int .i64 k, .int .i64 ld] 26)))
  have HQ3 := Lib.hid (Blk.new w3 26 #[.slice (some ⟨gN, 0, none⟩) l.length cN, .int .i64 off, .int .i64 r, .int .i64 k, .int .i64 ld])
  have HL3 := Lib.hid (show gN < w3.heap.size from ho3.lt)
  have HG3 := Lib.hid hg3
  have HG2 := Lib.hid hg2
  clear c0 c1 c2 c3 c4 ho3 hb3 hg3 hg2 hne hlt2 hc3 hm3 hc2 hm2
  obtain ⟨c0, c1, c2, c3, c4⟩ := cells5 HZ3.out
  obtain ⟨d0, d1, d2, d3, d4⟩ := cells5 HQ3.out
  go_wp2_with fail
  generalize hq : w3.heap.size = q at *
  generalize w3.alloc (.cells #[.slice (some ⟨gN, 0, none⟩) l.length cN, .int .i64 off, .int .i64 r, .int .i64 k, .int .i64 ld] 26) = W3 at *
  refine (HSet.out _ gN cN).mono ?_
  rintro e w4 ⟨rfl, hb4⟩
  have HZ4 := Lib.hid (HZ3.out.nxt hb4)
  have HQ4 := Lib.hid (HQ3.out.nxt hb4)
  have HB4 := Lib.hid (HB3.out.trans (hb4.mono HB3.out.size))
  have HW4 := Lib.hid (HW3.out.nxt hb4)
  have HN4 := Lib.hid (HN3.out.nxt hb4)
  clear c0 c1 c2 c3 c4 d0 d1 d2 d3 d4 hb4
  obtain ⟨c0, c1, c2, c3, c4⟩ := cells5 HZ4.out
  go_wp2_with fail
  refine (HGd.out _).mono ?_
  rintro e w5 ⟨rfl, hb5⟩
  have HZ5 := Lib.hid (HZ4.out.nxt hb5)
  have HQ5 := Lib.hid (HQ4.out.nxt hb5)
  have HB5 := Lib.hid (HB4.out.trans (hb5.mono HB4.out.size))
  have HW5 := Lib.hid (HW4.out.nxt hb5)
  have HN5 := Lib.hid (HN4.out.nxt hb5)
  clear c0 c1 c2 c3 c4 hb5
  obtain ⟨c0, c1, c2, c3, c4⟩ := cells5 HZ5.out
  obtain ⟨d0, d1, d2, d3, d4⟩ := cells5 HQ5.out
  rcases hwhy with rfl | ⟨rfl, hwhy⟩
  · go_wp2_with fail
    refine (rall_any _ _ cN cW l l _ HWd.out HWd.out HN5.out.row HW5.out.row (by have := HLen.out; omega) (Alike.refl l)).mono ?_
    rintro e w6 ⟨rfl, hb6⟩
    have HB6 := Lib.hid (HB5.out.trans (hb6.mono HB5.out.size))
    clear hb6
    go_wp2_with fail
    refine (awake_any _).mono ?_
    rintro e w7 ⟨rfl, hb7⟩
    go_wp2_with fail
    go_ret
    exact ⟨rfl, HB6.out.trans (hb7.mono HB6.out.size)⟩
  · rcases hwhy with h1 | ⟨h1, h2⟩ | ⟨h1, h2, h3⟩ | ⟨h1, h2, h3, h4⟩
    all_goals
      go_wp2_with fail
      refine (rall_any _ _ cN cW l l _ HWd.out HWd.out HN5.out.row HW5.out.row (by have := HLen.out; omega) (Alike.refl l)).mono ?_
      rintro e w6 ⟨rfl, hb6⟩
      have HB6 := Lib.hid (HB5.out.trans (hb6.mono HB5.out.size))
      clear hb6
      go_wp2_with fail
      refine (awake_any _).mono ?_
      rintro e w7 ⟨rfl, hb7⟩
      go_wp2_with fail
      go_ret
      first | exact ⟨rfl, HB6.out.trans (hb7.mono HB6.out.size)⟩ | exact ⟨ret_bool (by simp; omega), HB6.out.trans (hb7.mono HB6.out.size)⟩

end Go.Proofs.Ytajmdjeidpfgkaa
