/-
Pair: which error, or none. Conditions: the vectors' lists are the call's own, or the caller's.
-/
import Derived.Test.YtamndbeffbcppaaMvB
set_option linter.unusedVariables false
namespace Go.Proofs.Ytamndbeffbcppaa
open Go.RowKit
attribute [local go_sem ↓] Go.wp_at_zero Go.wp_at_succ

/-- Which error, or 0. -/
def pairI (same : Bool) (n : Nat) (off k inc : Int) (n' : Nat) (off' k' inc' : Int) : Int :=
  if vecB n off k inc then (if vecB n' off' k' inc' then (if k = k' then (if same && metB off.toNat inc.toNat off'.toNat inc'.toNat k.toNat then 2 else 0) else 3) else 1) else 1

theorem pair_any (g g' c c' : Nat) (l l' : List Nat) (n n' : Nat) (off k inc off' k' inc' : Int) (w : World) (hO : Own w g l) (hO' : Own w g' l') (hln : l.length = n) (hln' : l'.length = n') (hn : n < 9223372036854775808) (hn' : n' < 9223372036854775808)
    (ho : I64 off) (hk : I64 k) (hi : I64 inc) (ho' : I64 off') (hk' : I64 k') (hi' : I64 inc') :
    Calls Try.prog 62 #[vec (some ⟨g, 0, none⟩) n c off k inc, vec (some ⟨g', 0, none⟩) n' c' off' k' inc'] w fun e w' => e = .returned (.int .i64 (pairI (decide (g = g')) n off k inc n' off' k' inc')) ∧ Below w.heap.size w w' := by
  have HR := Lib.hid (fun W => right_any (some ⟨g, 0, none⟩) n c off k inc W (by omega) ho hk hi)
  have HR' := Lib.hid (fun W => right_any (some ⟨g', 0, none⟩) n' c' off' k' inc' W (by omega) ho' hk' hi')
  have HMt := Lib.hid (fun (h : vecB n off k inc = true) (h' : vecB n' off' k' inc' = true) (e : k = k') W (hb : Below w.heap.size w W) =>
    show Calls Try.prog 70 #[vec (some ⟨g, 0, none⟩) n c off k inc, vec (some ⟨g', 0, none⟩) n' c' off' k' inc'] W fun e w' => e = .returned (.bool (decide (g = g') && metB off.toNat inc.toNat off'.toNat inc'.toNat k.toNat)) ∧ Below W.heap.size W w' by
      obtain ⟨o, K, i, rfl, rfl, rfl, h1, h2⟩ := vec_nat h
      obtain ⟨o', K', i', rfl, e2, rfl, h1', h2'⟩ := vec_nat h'
      subst e
      obtain rfl : K = K' := by omega
      unfold I64 at ho hk hi ho' hi'
      have := mmeet_any g g' c c' l l' n n' o i o' i' K W (hO.nxt hb) (hO'.nxt hb) hln hln' hn hn' (by omega) h1 h1' h2 h2'
      simpa only [Int.toNat_natCast] using this)
  have hp : pairI (decide (g = g')) n off k inc n' off' k' inc' = if vecB n off k inc then (if vecB n' off' k' inc' then (if k = k' then (if decide (g = g') && metB off.toNat inc.toNat off'.toNat inc'.toNat k.toNat then 2 else 0) else 3) else 1) else 1 := rfl
  obtain ⟨p, hp0⟩ : ∃ p, pairI (decide (g = g')) n off k inc n' off' k' inc' = p := ⟨_, rfl⟩
  rw [hp0] at hp
  rw [hp0]
  generalize vecB n off k inc = x at *
  generalize vecB n' off' k' inc' = x' at *
  generalize (decide (g = g') && metB off.toNat inc.toNat off'.toNat inc'.toNat k.toNat) = y at *
  have HP := Lib.hid hp
  clear hp hp0 hO hO' hln hln' hn hn' ho hk hi ho' hk' hi'
  unfold vec at *
  go_enter Try.func62, Try.ntmps62
  have hz0 := (Blk.new w 45 #[.slice (some ⟨g, 0, none⟩) n c, .int .i64 off, .int .i64 k, .int .i64 inc]).alloc (.cells #[.slice (some ⟨g', 0, none⟩) n' c', .int .i64 off', .int .i64 k', .int .i64 inc'] 45)
  have hz1 := Blk.new_ (w.alloc (.cells #[.slice (some ⟨g, 0, none⟩) n c, .int .i64 off, .int .i64 k, .int .i64 inc] 45)) 45 #[.slice (some ⟨g', 0, none⟩) n' c', .int .i64 off', .int .i64 k', .int .i64 inc'] (w.heap.size + 1) (by simp)
  have HZ0 := Lib.hid hz0
  have HZ1 := Lib.hid hz1
  have HBl := Lib.hid (((Below.refl w.heap.size w).alloc (Nat.le_refl _) (.cells #[.slice (some ⟨g, 0, none⟩) n c, .int .i64 off, .int .i64 k, .int .i64 inc] 45)).alloc (by simp) (.cells #[.slice (some ⟨g', 0, none⟩) n' c', .int .i64 off', .int .i64 k', .int .i64 inc'] 45))
  clear hz0 hz1
  go_wp2_with fail
  refine (HR.out _).mono ?_
  rintro e w1 ⟨rfl, hb1⟩
  have HB1 := Lib.hid (HBl.out.trans (hb1.mono HBl.out.size))
  have HZ2 := Lib.hid (HZ0.out.nxt hb1)
  have HZ3 := Lib.hid (HZ1.out.nxt hb1)
  clear hb1
  obtain ⟨c0, c1, c2, c3⟩ := cells4w HZ2.out
  obtain ⟨d0, d1, d2, d3⟩ := cells4w HZ3.out
  cases x
  · have hp := HP.out
    simp only [Bool.false_eq_true, if_false] at hp
    subst hp
    go_wp2_with fail
    go_ret
    exact ⟨rfl, HB1.out⟩
  go_wp2_with fail
  refine (HR'.out _).mono ?_
  rintro e w2 ⟨rfl, hb1⟩
  have HB2 := Lib.hid (HB1.out.trans (hb1.mono HB1.out.size))
  have HZ4 := Lib.hid (HZ2.out.nxt hb1)
  have HZ5 := Lib.hid (HZ3.out.nxt hb1)
  clear hb1 c0 c1 c2 c3 d0 d1 d2 d3
  obtain ⟨c0, c1, c2, c3⟩ := cells4w HZ4.out
  obtain ⟨d0, d1, d2, d3⟩ := cells4w HZ5.out
  cases x'
  · have hp := HP.out
    simp only [Bool.false_eq_true, if_false, if_true] at hp
    subst hp
    go_wp2_with fail
    go_ret
    exact ⟨rfl, HB2.out⟩
  by_cases hkk : k = k'
  · have HM := Lib.hid (HMt.out (by trivial) (by trivial) hkk)
    have hp := HP.out
    simp only [if_true, if_pos hkk] at hp
    have hkk2 : (k == k') = true := by simp [hkk]
    subst hkk
    have HP2 := Lib.hid hp
    clear hp HP HMt
    go_wp2_with fail
    refine (HM.out _ HB2.out).mono ?_
    rintro e w3 ⟨rfl, hb1⟩
    have HB3 := Lib.hid (HB2.out.trans (hb1.mono HB2.out.size))
    clear hb1 c0 c1 c2 c3 d0 d1 d2 d3
    cases y
    · have hp := HP2.out
      simp only [Bool.false_eq_true, if_false] at hp
      subst hp
      go_wp2_with fail
      go_ret
      exact ⟨rfl, HB3.out⟩
    · have hp := HP2.out
      simp only [if_true] at hp
      subst hp
      go_wp2_with fail
      go_ret
      exact ⟨rfl, HB3.out⟩
  · have hp := HP.out
    simp only [if_true, if_neg hkk] at hp
    subst hp
    have hkk2 : (k == k') = false := by simp [hkk]
    clear HMt
    go_wp2_with fail
    go_ret
    exact ⟨rfl, HB2.out⟩
end Go.Proofs.Ytamndbeffbcppaa
