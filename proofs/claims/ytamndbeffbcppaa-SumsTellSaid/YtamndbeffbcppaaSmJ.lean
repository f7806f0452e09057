/-
SumsTell, walked. Conditions: as each says.
-/
import Derived.Test.YtamndbeffbcppaaSmF
import Derived.Test.YtamndbeffbcppaaSmG
import Derived.Test.YtamndbeffbcppaaSmH
import Derived.Test.YtamndbeffbcppaaSmI
set_option linter.unusedVariables false
set_option linter.unusedSimpArgs false
set_option linter.unnecessarySimpa false
namespace Go.Proofs.Ytamndbeffbcppaa
open Go.RowKit
attribute [local go_sem ↓] Go.wp_at_zero Go.wp_at_succ


theorem sumsTell_long (A : Option Addr) (n c : Nat) (off k inc : Int) (A' : Option Addr) (n' c' : Nat) (off' k' inc' : Int) (w : World) (h : longB n k = true ∨ longB n k = false ∧ longB n' k' = true) :
    Calls Try.prog 5 #[vec A n c off k inc, vec A' n' c' off' k' inc'] w fun e w' => e = .returned (.bool true) ∧ Below w.heap.size w w' := by
  have HLg := Lib.hid (fun W => long_any A n c off k inc W)
  have HLg' := Lib.hid (fun W => long_any A' n' c' off' k' inc' W)
  generalize longB n k = x at *
  generalize longB n' k' = x' at *
  rcases h with rfl | ⟨rfl, rfl⟩
  · unfold vec at *
    go_enter Try.func5, Try.ntmps5
    have Ha0 := Lib.hid ((Blk.new w 45 #[.slice A n c, .int .i64 off, .int .i64 k, .int .i64 inc]).alloc (.cells #[.slice A' n' c', .int .i64 off', .int .i64 k', .int .i64 inc'] 45))
    have Hb0 := Lib.hid (Blk.new_ (w.alloc (.cells #[.slice A n c, .int .i64 off, .int .i64 k, .int .i64 inc] 45)) 45 #[.slice A' n' c', .int .i64 off', .int .i64 k', .int .i64 inc'] (w.heap.size + 1) (by simp))
    have HB0 := Lib.hid (((Below.refl w.heap.size w).alloc (Nat.le_refl _) (.cells #[.slice A n c, .int .i64 off, .int .i64 k, .int .i64 inc] 45)).alloc (by simp) (.cells #[.slice A' n' c', .int .i64 off', .int .i64 k', .int .i64 inc'] 45))
    go_wp2_with fail
    refine (awake5_any _).mono ?_
    rintro e w1 ⟨rfl, hb⟩
    have Ha1 := Lib.hid (Ha0.out.nxt hb)
    have Hb1 := Lib.hid (Hb0.out.nxt hb)
    have HB1 := Lib.hid (below_nx HB0.out hb)
    clear hb
    obtain ⟨a0, a1, a2, a3⟩ := cells4w Ha1.out
    obtain ⟨b0, b1, b2, b3⟩ := cells4w Hb1.out
    go_wp2_with fail
    refine (HLg.out _).mono ?_
    rintro e w2 ⟨rfl, hb⟩
    have Ha2 := Lib.hid (Ha1.out.nxt hb)
    have Hb2 := Lib.hid (Hb1.out.nxt hb)
    have HB2 := Lib.hid (below_nx HB1.out hb)
    clear hb
    clear a0 a1 a2 a3 b0 b1 b2 b3
    obtain ⟨a0, a1, a2, a3⟩ := cells4w Ha2.out
    obtain ⟨b0, b1, b2, b3⟩ := cells4w Hb2.out
    go_wp2_with fail
    refine (awake5_any _).mono ?_
    rintro e w9 ⟨rfl, hb⟩
    have Ha3 := Lib.hid (Ha2.out.nxt hb)
    have Hb3 := Lib.hid (Hb2.out.nxt hb)
    have HB3 := Lib.hid (below_nx HB2.out hb)
    clear hb
    clear a0 a1 a2 a3 b0 b1 b2 b3
    obtain ⟨a0, a1, a2, a3⟩ := cells4w Ha3.out
    obtain ⟨b0, b1, b2, b3⟩ := cells4w Hb3.out
    go_wp2_with fail
    go_ret
    exact ⟨rfl, HB3.out⟩
  · unfold vec at *
    go_enter Try.func5, Try.ntmps5
    have Ha0 := Lib.hid ((Blk.new w 45 #[.slice A n c, .int .i64 off, .int .i64 k, .int .i64 inc]).alloc (.cells #[.slice A' n' c', .int .i64 off', .int .i64 k', .int .i64 inc'] 45))
    have Hb0 := Lib.hid (Blk.new_ (w.alloc (.cells #[.slice A n c, .int .i64 off, .int .i64 k, .int .i64 inc] 45)) 45 #[.slice A' n' c', .int .i64 off', .int .i64 k', .int .i64 inc'] (w.heap.size + 1) (by simp))
    have HB0 := Lib.hid (((Below.refl w.heap.size w).alloc (Nat.le_refl _) (.cells #[.slice A n c, .int .i64 off, .int .i64 k, .int .i64 inc] 45)).alloc (by simp) (.cells #[.slice A' n' c', .int .i64 off', .int .i64 k', .int .i64 inc'] 45))
    go_wp2_with fail
    refine (awake5_any _).mono ?_
    rintro e w1 ⟨rfl, hb⟩
    have Ha1 := Lib.hid (Ha0.out.nxt hb)
    have Hb1 := Lib.hid (Hb0.out.nxt hb)
    have HB1 := Lib.hid (below_nx HB0.out hb)
    clear hb
    obtain ⟨a0, a1, a2, a3⟩ := cells4w Ha1.out
    obtain ⟨b0, b1, b2, b3⟩ := cells4w Hb1.out
    go_wp2_with fail
    refine (HLg.out _).mono ?_
    rintro e w2 ⟨rfl, hb⟩
    have Ha2 := Lib.hid (Ha1.out.nxt hb)
    have Hb2 := Lib.hid (Hb1.out.nxt hb)
    have HB2 := Lib.hid (below_nx HB1.out hb)
    clear hb
    clear a0 a1 a2 a3 b0 b1 b2 b3
    obtain ⟨a0, a1, a2, a3⟩ := cells4w Ha2.out
    obtain ⟨b0, b1, b2, b3⟩ := cells4w Hb2.out
    go_wp2_with fail
    refine (HLg'.out _).mono ?_
    rintro e w3 ⟨rfl, hb⟩
    have Ha3 := Lib.hid (Ha2.out.nxt hb)
    have Hb3 := Lib.hid (Hb2.out.nxt hb)
    have HB3 := Lib.hid (below_nx HB2.out hb)
    clear hb
    clear a0 a1 a2 a3 b0 b1 b2 b3
    obtain ⟨a0, a1, a2, a3⟩ := cells4w Ha3.out
    obtain ⟨b0, b1, b2, b3⟩ := cells4w Hb3.out
    go_wp2_with fail
    refine (awake5_any _).mono ?_
    rintro e w9 ⟨rfl, hb⟩
    have Ha4 := Lib.hid (Ha3.out.nxt hb)
    have Hb4 := Lib.hid (Hb3.out.nxt hb)
    have HB4 := Lib.hid (below_nx HB3.out hb)
    clear hb
    clear a0 a1 a2 a3 b0 b1 b2 b3
    obtain ⟨a0, a1, a2, a3⟩ := cells4w Ha4.out
    obtain ⟨b0, b1, b2, b3⟩ := cells4w Hb4.out
    go_wp2_with fail
    go_ret
    exact ⟨rfl, HB4.out⟩

theorem sumsTell_walk (A : Option Addr) (c : Nat) (l : List Nat) (off k inc : Int) (A' : Option Addr) (c' : Nat) (l' : List Nat) (off' k' inc' : Int) (w : World) (hA : Row w A (f64s l)) (hA' : Row w A' (f64s l')) (hW : Wds l) (hW' : Wds l') (ho : I64 off) (hk : I64 k) (hi : I64 inc) (ho' : I64 off') (hk' : I64 k') (hi' : I64 inc') :
    Calls Try.prog 5 #[vec A l.length c off k inc, vec A' l'.length c' off' k' inc'] w fun e w' => e = .returned (.bool true) ∧ Below w.heap.size w w' := by
  cases h1 : longB l.length k
  · cases h2 : longB l'.length k'
    · have q1 : l.length ≤ 1000 ∧ k ≤ 60 := by unfold longB at h1; simp at h1; omega
      have q2 : l'.length ≤ 1000 ∧ k' ≤ 60 := by unfold longB at h2; simp at h2; omega
      cases hx : vecB l.length off k inc
      · exact sumsTell_x A _ c l off k inc A' _ c' l' off' k' inc' w hA hA' hW hW' rfl rfl q1.1 q2.1 q1.2 q2.2 ho hk hi ho' hk' hi' _ hx rfl
      · obtain ⟨o, K, i, e1, e2, e3, _, a2⟩ := vec_nat hx
        cases hy : vecB l'.length off' k' inc'
        · exact sumsTell_y A _ c l off k inc A' _ c' l' off' k' inc' w hA hA' hW hW' rfl rfl q1.1 q2.1 q1.2 q2.2 ho hk hi ho' hk' hi' o K i e1 e2 e3 a2 hx hy
        · obtain ⟨o', K', i', e4, e5, e6, _, a4⟩ := vec_nat hy
          by_cases hkk : k = k'
          · obtain rfl : K = K' := by omega
            exact sumsTell_ok A _ c l off k inc A' _ c' l' off' k' inc' w hA hA' hW hW' rfl rfl q1.1 q2.1 q1.2 q2.2 ho hk hi ho' hk' hi' o K i e1 e2 e3 a2 o' i' e4 e5 e6 a4 hx hy
          · exact sumsTell_n A _ c l off k inc A' _ c' l' off' k' inc' w hA hA' hW hW' rfl rfl q1.1 q2.1 q1.2 q2.2 ho hk hi ho' hk' hi' o K i e1 e2 e3 a2 hx hy hkk
    · exact sumsTell_long A _ c off k inc A' _ c' off' k' inc' w (.inr ⟨h1, h2⟩)
  · exact sumsTell_long A _ c off k inc A' _ c' off' k' inc' w (.inl h1)

end Go.Proofs.Ytamndbeffbcppaa
