/-
MoveVectors, walked. Conditions: as each says.
-/
import Derived.Test.YtiapminfldbgbaaMvQ
import Derived.Test.YtiapminfldbgbaaMvR
import Derived.Test.YtiapminfldbgbaaMvT
import Derived.Test.YtiapminfldbgbaaMvU
import Derived.Test.YtiapminfldbgbaaMvV
import Derived.Test.YtiapminfldbgbaaMvW
set_option linter.unusedVariables false
set_option linter.unusedSimpArgs false
set_option linter.unnecessarySimpa false
namespace Go.Proofs.Ytiapminfldbgbaa
open Go.RowKit
attribute [local go_sem ↓] Go.wp_at_zero Go.wp_at_succ


theorem moveVectors_long (A : Option Addr) (n c : Nat) (off k inc : Int) (A' : Option Addr) (n' c' : Nat) (off' k' inc' : Int) (one swap : Bool) (w : World) (h : longB n k = true ∨ longB n k = false ∧ longB n' k' = true) :
    Calls Try.prog 3 #[vec A n c off k inc, vec A' n' c' off' k' inc', .bool one, .bool swap] w fun e w' => e = .returned (.bool true) ∧ Below w.heap.size w w' := by
  have HLg := Lib.hid (fun W => long_any A n c off k inc W)
  have HLg' := Lib.hid (fun W => long_any A' n' c' off' k' inc' W)
  generalize longB n k = x at *
  generalize longB n' k' = x' at *
  rcases h with rfl | ⟨rfl, rfl⟩
  · unfold vec at *
    go_enter Try.func3, Try.ntmps3
    have Ha0 := Lib.hid ((Blk.new w 24 #[.slice A n c, .int .i64 off, .int .i64 k, .int .i64 inc]).alloc (.cells #[.slice A' n' c', .int .i64 off', .int .i64 k', .int .i64 inc'] 24))
    have Hb0 := Lib.hid (Blk.new_ (w.alloc (.cells #[.slice A n c, .int .i64 off, .int .i64 k, .int .i64 inc] 24)) 24 #[.slice A' n' c', .int .i64 off', .int .i64 k', .int .i64 inc'] (w.heap.size + 1) (by simp))
    have HB0 := Lib.hid (((Below.refl w.heap.size w).alloc (Nat.le_refl _) (.cells #[.slice A n c, .int .i64 off, .int .i64 k, .int .i64 inc] 24)).alloc (by simp) (.cells #[.slice A' n' c', .int .i64 off', .int .i64 k', .int .i64 inc'] 24))
    go_wp2_with fail
    refine (awake4_any _).mono ?_
    rintro e w1 ⟨rfl, hb⟩
    have Ha1 := Lib.hid (Ha0.out.nxt hb)
    have Hb1 := Lib.hid (Hb0.out.nxt hb)
    have HB1 := Lib.hid (below_nx HB0.out hb)
    clear hb
    obtain ⟨a0, a1, a2, a3⟩ := cells4w Ha1.out
    obtain ⟨b0, b1, b2, b3⟩ := cells4w Hb1.out
    go_wp2_with fail
    refine (HLg.out _).mono ?_
    rintro e w2 ⟨rfl, hb⟩
    have Ha2 := Lib.hid (Ha1.out.nxt hb)
    have Hb2 := Lib.hid (Hb1.out.nxt hb)
    have HB2 := Lib.hid (below_nx HB1.out hb)
    clear hb
    clear a0 a1 a2 a3 b0 b1 b2 b3
    obtain ⟨a0, a1, a2, a3⟩ := cells4w Ha2.out
    obtain ⟨b0, b1, b2, b3⟩ := cells4w Hb2.out
    go_wp2_with fail
    refine (awake4_any _).mono ?_
    rintro e w9 ⟨rfl, hb⟩
    have Ha3 := Lib.hid (Ha2.out.nxt hb)
    have Hb3 := Lib.hid (Hb2.out.nxt hb)
    have HB3 := Lib.hid (below_nx HB2.out hb)
    clear hb
    clear a0 a1 a2 a3 b0 b1 b2 b3
    obtain ⟨a0, a1, a2, a3⟩ := cells4w Ha3.out
    obtain ⟨b0, b1, b2, b3⟩ := cells4w Hb3.out
    go_wp2_with fail
    go_ret
    exact ⟨rfl, HB3.out⟩
  · unfold vec at *
    go_enter Try.func3, Try.ntmps3
    have Ha0 := Lib.hid ((Blk.new w 24 #[.slice A n c, .int .i64 off, .int .i64 k, .int .i64 inc]).alloc (.cells #[.slice A' n' c', .int .i64 off', .int .i64 k', .int .i64 inc'] 24))
    have Hb0 := Lib.hid (Blk.new_ (w.alloc (.cells #[.slice A n c, .int .i64 off, .int .i64 k, .int .i64 inc] 24)) 24 #[.slice A' n' c', .int .i64 off', .int .i64 k', .int .i64 inc'] (w.heap.size + 1) (by simp))
    have HB0 := Lib.hid (((Below.refl w.heap.size w).alloc (Nat.le_refl _) (.cells #[.slice A n c, .int .i64 off, .int .i64 k, .int .i64 inc] 24)).alloc (by simp) (.cells #[.slice A' n' c', .int .i64 off', .int .i64 k', .int .i64 inc'] 24))
    go_wp2_with fail
    refine (awake4_any _).mono ?_
    rintro e w1 ⟨rfl, hb⟩
    have Ha1 := Lib.hid (Ha0.out.nxt hb)
    have Hb1 := Lib.hid (Hb0.out.nxt hb)
    have HB1 := Lib.hid (below_nx HB0.out hb)
    clear hb
    obtain ⟨a0, a1, a2, a3⟩ := cells4w Ha1.out
    obtain ⟨b0, b1, b2, b3⟩ := cells4w Hb1.out
    go_wp2_with fail
    refine (HLg.out _).mono ?_
    rintro e w2 ⟨rfl, hb⟩
    have Ha2 := Lib.hid (Ha1.out.nxt hb)
    have Hb2 := Lib.hid (Hb1.out.nxt hb)
    have HB2 := Lib.hid (below_nx HB1.out hb)
    clear hb
    clear a0 a1 a2 a3 b0 b1 b2 b3
    obtain ⟨a0, a1, a2, a3⟩ := cells4w Ha2.out
    obtain ⟨b0, b1, b2, b3⟩ := cells4w Hb2.out
    go_wp2_with fail
    refine (HLg'.out _).mono ?_
    rintro e w3 ⟨rfl, hb⟩
    have Ha3 := Lib.hid (Ha2.out.nxt hb)
    have Hb3 := Lib.hid (Hb2.out.nxt hb)
    have HB3 := Lib.hid (below_nx HB2.out hb)
    clear hb
    clear a0 a1 a2 a3 b0 b1 b2 b3
    obtain ⟨a0, a1, a2, a3⟩ := cells4w Ha3.out
    obtain ⟨b0, b1, b2, b3⟩ := cells4w Hb3.out
    go_wp2_with fail
    refine (awake4_any _).mono ?_
    rintro e w9 ⟨rfl, hb⟩
    have Ha4 := Lib.hid (Ha3.out.nxt hb)
    have Hb4 := Lib.hid (Hb3.out.nxt hb)
    have HB4 := Lib.hid (below_nx HB3.out hb)
    clear hb
    clear a0 a1 a2 a3 b0 b1 b2 b3
    obtain ⟨a0, a1, a2, a3⟩ := cells4w Ha4.out
    obtain ⟨b0, b1, b2, b3⟩ := cells4w Hb4.out
    go_wp2_with fail
    go_ret
    exact ⟨rfl, HB4.out⟩

theorem moveVectors_walk (A : Option Addr) (c : Nat) (l : List Nat) (off k inc : Int) (A' : Option Addr) (c' : Nat) (l' : List Nat) (off' k' inc' : Int) (one swap : Bool) (w : World) (hA : Row w A (f64s l)) (hA' : Row w A' (f64s l')) (hW : Wds l) (hW' : Wds l') (ho : I64 off) (hk : I64 k) (hi : I64 inc) (ho' : I64 off') (hk' : I64 k') (hi' : I64 inc') :
    Calls Try.prog 3 #[vec A l.length c off k inc, vec A' l'.length c' off' k' inc', .bool one, .bool swap] w fun e w' => e = .returned (.bool true) ∧ Below w.heap.size w w' := by
  cases h1 : longB l.length k
  · cases h2 : longB l'.length k'
    · have q1 : l.length ≤ 1000 ∧ k ≤ 60 := by unfold longB at h1; simp at h1; omega
      have q2 : l'.length ≤ 1000 ∧ k' ≤ 60 := by unfold longB at h2; simp at h2; omega
      cases one
      · by_cases hP : pairI false l.length off k inc l'.length off' k' inc' = 0
        · obtain ⟨o, K, i, o', i', e1, e2, e3, e4, e5, e6, a1, a2, a3, a4, _⟩ := pair_zero (g := 0) (g' := 1) (n := l.length) (n' := l'.length) (off := off) (k := k) (inc := inc) (off' := off') (k' := k') (inc' := inc') hP
          cases swap
          · exact moveVectors_ok2c A _ c l off k inc A' _ c' l' off' k' inc' w hA hA' hW hW' rfl rfl q1.1 q2.1 q1.2 q2.2 ho hk hi ho' hk' hi' hP o K i o' i' e1 e2 e3 e4 e5 e6 a1 a2 a3 a4
          · exact moveVectors_ok2s A _ c l off k inc A' _ c' l' off' k' inc' w hA hA' hW hW' rfl rfl q1.1 q2.1 q1.2 q2.2 ho hk hi ho' hk' hi' hP o K i o' i' e1 e2 e3 e4 e5 e6 a1 a2 a3 a4
        · exact moveVectors_err2 A _ c l off k inc A' _ c' l' off' k' inc' swap w hA hA' hW hW' rfl rfl q1.1 q2.1 q1.2 q2.2 ho hk hi ho' hk' hi' _ rfl hP
      · by_cases hP : pairI true l.length off k inc l.length off' k' inc' = 0
        · obtain ⟨o, K, i, o', i', e1, e2, e3, e4, e5, e6, a1, a2, a3, a4, a5⟩ := pair_zero (g := 0) (g' := 0) (n := l.length) (n' := l.length) (off := off) (k := k) (inc := inc) (off' := off') (k' := k') (inc' := inc') hP
          cases swap
          · exact moveVectors_ok1c A _ c l off k inc A' _ c' l' off' k' inc' w hA hA' hW hW' rfl rfl q1.1 q2.1 q1.2 q2.2 ho hk hi ho' hk' hi' hP o K i o' i' e1 e2 e3 e4 e5 e6 a1 a2 a3 a4 (a5 rfl)
          · exact moveVectors_ok1s A _ c l off k inc A' _ c' l' off' k' inc' w hA hA' hW hW' rfl rfl q1.1 q2.1 q1.2 q2.2 ho hk hi ho' hk' hi' hP o K i o' i' e1 e2 e3 e4 e5 e6 a1 a2 a3 a4 (a5 rfl)
        · exact moveVectors_err1 A _ c l off k inc A' _ c' l' off' k' inc' swap w hA hA' hW hW' rfl rfl q1.1 q2.1 q1.2 q2.2 ho hk hi ho' hk' hi' _ rfl hP
    · exact moveVectors_long A _ c off k inc A' _ c' off' k' inc' one swap w (.inr ⟨h1, h2⟩)
  · exact moveVectors_long A _ c off k inc A' _ c' off' k' inc' one swap w (.inl h1)

end Go.Proofs.Ytiapminfldbgbaa
