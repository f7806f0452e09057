/-
MoveClones, walked. Conditions: as each says.
-/
import Derived.Test.YtamndbeffbcppaaZe
import Derived.Test.YtamndbeffbcppaaZMcC
import Derived.Test.YtamndbeffbcppaaZMcD
import Derived.Test.YtamndbeffbcppaaZMcE
import Derived.Test.YtamndbeffbcppaaZMcF
import Derived.Test.YtamndbeffbcppaaVwQ
set_option linter.unusedVariables false
set_option linter.unusedSimpArgs false
set_option linter.unnecessarySimpa false
namespace Go.Proofs.Ytamndbeffbcppaa
open Go.RowKit
attribute [local go_sem ↓] Go.wp_at_zero Go.wp_at_succ


theorem moveClones_long (A : Option Addr) (n c : Nat) (off rr kk ld : Int) (A' : Option Addr) (n' c' : Nat) (off' rr' kk' ld' : Int) (w : World) (h : greatB n rr kk = true ∨ greatB n rr kk = false ∧ greatB n' rr' kk' = true) :
    Calls Try.prog 4 #[mat A n c off rr kk ld, mat A' n' c' off' rr' kk' ld'] w fun e w' => e = .returned (.bool true) ∧ Below w.heap.size w w' := by
  have HGa := Lib.hid (fun W => great_any A n c off rr kk ld W)
  have HGb := Lib.hid (fun W => great_any A' n' c' off' rr' kk' ld' W)
  generalize greatB n rr kk = x at *
  generalize greatB n' rr' kk' = y at *
  rcases h with rfl | ⟨rfl, rfl⟩
  · unfold mat at *
    go_enter Try.func4, Try.ntmps4
    have Ha0 := Lib.hid ((Blk.new w 24 #[.slice A n c, .int .i64 off, .int .i64 rr, .int .i64 kk, .int .i64 ld]).alloc (.cells #[.slice A' n' c', .int .i64 off', .int .i64 rr', .int .i64 kk', .int .i64 ld'] 24))
    have Hb0 := Lib.hid (Blk.new_ (w.alloc (.cells #[.slice A n c, .int .i64 off, .int .i64 rr, .int .i64 kk, .int .i64 ld] 24)) 24 #[.slice A' n' c', .int .i64 off', .int .i64 rr', .int .i64 kk', .int .i64 ld'] (w.heap.size + 1) (by simp))
    have HB0 := Lib.hid (((Below.refl w.heap.size w).alloc (Nat.le_refl _) (.cells #[.slice A n c, .int .i64 off, .int .i64 rr, .int .i64 kk, .int .i64 ld] 24)).alloc (by simp) (.cells #[.slice A' n' c', .int .i64 off', .int .i64 rr', .int .i64 kk', .int .i64 ld'] 24))
    go_wp2_with fail
    refine (awake4_any _).mono ?_
    rintro e w1 ⟨rfl, hb⟩
    have Ha1 := Lib.hid (Ha0.out.nxt hb)
    have Hb1 := Lib.hid (Hb0.out.nxt hb)
    have HB1 := Lib.hid (below_nx HB0.out hb)
    clear hb
    obtain ⟨a0, a1, a2, a3, a4⟩ := cells5 Ha1.out
    obtain ⟨b0, b1, b2, b3, b4⟩ := cells5 Hb1.out
    go_wp2_with fail
    refine (HGa.out _).mono ?_
    rintro e w2 ⟨rfl, hb⟩
    have Ha2 := Lib.hid (Ha1.out.nxt hb)
    have Hb2 := Lib.hid (Hb1.out.nxt hb)
    have HB2 := Lib.hid (below_nx HB1.out hb)
    clear hb
    clear a0 a1 a2 a3 a4 b0 b1 b2 b3 b4
    obtain ⟨a0, a1, a2, a3, a4⟩ := cells5 Ha2.out
    obtain ⟨b0, b1, b2, b3, b4⟩ := cells5 Hb2.out
    go_wp2_with fail
    refine (awake4_any _).mono ?_
    rintro e w9 ⟨rfl, hb⟩
    have Ha3 := Lib.hid (Ha2.out.nxt hb)
    have Hb3 := Lib.hid (Hb2.out.nxt hb)
    have HB3 := Lib.hid (below_nx HB2.out hb)
    clear hb
    clear a0 a1 a2 a3 a4 b0 b1 b2 b3 b4
    obtain ⟨a0, a1, a2, a3, a4⟩ := cells5 Ha3.out
    obtain ⟨b0, b1, b2, b3, b4⟩ := cells5 Hb3.out
    go_wp2_with fail
    go_ret
    exact ⟨rfl, HB3.out⟩
  · unfold mat at *
    go_enter Try.func4, Try.ntmps4
    have Ha0 := Lib.hid ((Blk.new w 24 #[.slice A n c, .int .i64 off, .int .i64 rr, .int .i64 kk, .int .i64 ld]).alloc (.cells #[.slice A' n' c', .int .i64 off', .int .i64 rr', .int .i64 kk', .int .i64 ld'] 24))
    have Hb0 := Lib.hid (Blk.new_ (w.alloc (.cells #[.slice A n c, .int .i64 off, .int .i64 rr, .int .i64 kk, .int .i64 ld] 24)) 24 #[.slice A' n' c', .int .i64 off', .int .i64 rr', .int .i64 kk', .int .i64 ld'] (w.heap.size + 1) (by simp))
    have HB0 := Lib.hid (((Below.refl w.heap.size w).alloc (Nat.le_refl _) (.cells #[.slice A n c, .int .i64 off, .int .i64 rr, .int .i64 kk, .int .i64 ld] 24)).alloc (by simp) (.cells #[.slice A' n' c', .int .i64 off', .int .i64 rr', .int .i64 kk', .int .i64 ld'] 24))
    go_wp2_with fail
    refine (awake4_any _).mono ?_
    rintro e w1 ⟨rfl, hb⟩
    have Ha1 := Lib.hid (Ha0.out.nxt hb)
    have Hb1 := Lib.hid (Hb0.out.nxt hb)
    have HB1 := Lib.hid (below_nx HB0.out hb)
    clear hb
    obtain ⟨a0, a1, a2, a3, a4⟩ := cells5 Ha1.out
    obtain ⟨b0, b1, b2, b3, b4⟩ := cells5 Hb1.out
    go_wp2_with fail
    refine (HGa.out _).mono ?_
    rintro e w2 ⟨rfl, hb⟩
    have Ha2 := Lib.hid (Ha1.out.nxt hb)
    have Hb2 := Lib.hid (Hb1.out.nxt hb)
    have HB2 := Lib.hid (below_nx HB1.out hb)
    clear hb
    clear a0 a1 a2 a3 a4 b0 b1 b2 b3 b4
    obtain ⟨a0, a1, a2, a3, a4⟩ := cells5 Ha2.out
    obtain ⟨b0, b1, b2, b3, b4⟩ := cells5 Hb2.out
    go_wp2_with fail
    refine (HGb.out _).mono ?_
    rintro e w3 ⟨rfl, hb⟩
    have Ha3 := Lib.hid (Ha2.out.nxt hb)
    have Hb3 := Lib.hid (Hb2.out.nxt hb)
    have HB3 := Lib.hid (below_nx HB2.out hb)
    clear hb
    clear a0 a1 a2 a3 a4 b0 b1 b2 b3 b4
    obtain ⟨a0, a1, a2, a3, a4⟩ := cells5 Ha3.out
    obtain ⟨b0, b1, b2, b3, b4⟩ := cells5 Hb3.out
    go_wp2_with fail
    refine (awake4_any _).mono ?_
    rintro e w9 ⟨rfl, hb⟩
    have Ha4 := Lib.hid (Ha3.out.nxt hb)
    have Hb4 := Lib.hid (Hb3.out.nxt hb)
    have HB4 := Lib.hid (below_nx HB3.out hb)
    clear hb
    clear a0 a1 a2 a3 a4 b0 b1 b2 b3 b4
    obtain ⟨a0, a1, a2, a3, a4⟩ := cells5 Ha4.out
    obtain ⟨b0, b1, b2, b3, b4⟩ := cells5 Hb4.out
    go_wp2_with fail
    go_ret
    exact ⟨rfl, HB4.out⟩

theorem moveClones_walk (A : Option Addr) (c : Nat) (l : List Nat) (off rr kk ld : Int) (A' : Option Addr) (c' : Nat) (l' : List Nat) (off' rr' kk' ld' : Int) (w : World) (hA : Row w A (f64s l)) (hA' : Row w A' (f64s l')) (hW : Wds l) (hW' : Wds l') (hnc : l.length ≤ c) (hnc' : l'.length ≤ c') (hfz : ∀ b x, A' = some ⟨b, x, none⟩ → l' ≠ [] → w.frozen? ⟨b, x, none⟩ = false)
    (ho : I64 off) (hr : I64 rr) (hk : I64 kk) (hi : I64 ld) (ho' : I64 off') (hr' : I64 rr') (hk' : I64 kk') (hi' : I64 ld') :
    Calls Try.prog 4 #[mat A l.length c off rr kk ld, mat A' l'.length c' off' rr' kk' ld'] w fun e w' => e = .returned (.bool true) ∧ Below w.heap.size w w' := by
  cases hga : greatB l.length rr kk
  case true => exact moveClones_long A _ c off rr kk ld A' _ c' off' rr' kk' ld' w (.inl hga)
  cases hgb : greatB l'.length rr' kk'
  case true => exact moveClones_long A _ c off rr kk ld A' _ c' off' rr' kk' ld' w (.inr ⟨hga, hgb⟩)
  have hq : l.length ≤ 1000 ∧ rr ≤ 20 ∧ kk ≤ 20 := by
    have h := hga
    unfold greatB at h
    simp at h; omega
  have hq' : l'.length ≤ 1000 ∧ rr' ≤ 20 ∧ kk' ≤ 20 := by
    have h := hgb
    unfold greatB at h
    simp at h; omega
  cases hgd : matB l.length off rr kk ld
  · exact moveClones_bad A _ c l off rr kk ld A' _ c' l' off' rr' kk' ld' w hga hgb hA hA' hW hW' rfl rfl hnc hnc' hq.1 hq'.1 ho hr hk hi ho' hr' hk' hi' hgd
  · obtain ⟨o, R, C, L, rfl, rfl, rfl, rfl, hL, hR, hrr⟩ := mat_nat hgd
    have hb : o < 9223372036854775808 ∧ R ≤ 20 ∧ C ≤ 20 ∧ L < 9223372036854775808 := by unfold I64 at *; omega
    cases hgd' : matB l'.length off' rr' kk' ld'
    · exact moveClones_e1 A _ c l o R C L _ _ A' _ c' l' off' rr' kk' ld' w hga hgb hA hA' hW hW' rfl rfl hnc hnc' hq.1 hq'.1 hb rfl rfl hL hR hrr ho' hr' hk' hi' hgd'
    · obtain ⟨o', R', C', L', rfl, rfl, rfl, rfl, hL', hR', hrr'⟩ := mat_nat hgd'
      have hb' : o' < 9223372036854775808 ∧ R' < 9223372036854775808 ∧ C' < 9223372036854775808 ∧ L' < 9223372036854775808 := by unfold I64 at *; omega
      by_cases h1 : R' = R
      · subst h1
        by_cases h2 : C' = C
        · subst h2
          exact moveClones_ok A _ c l o R' C' L _ _ A' _ c' l' o' L' w hga hgb hA hA' hW hW' rfl rfl hnc hnc' hq.1 hq'.1 hb rfl rfl hL hR hrr hfz ⟨hb'.1, hb'.2.2.2⟩ hL' hR' hrr'
        · exact moveClones_e3c A _ c l o R' C L _ _ A' _ c' l' o' C' L' w hga hgb hA hA' hW hW' rfl rfl hnc hnc' hq.1 hq'.1 hb rfl rfl hL hR hrr ⟨hb'.1, hb'.2.2.1, hb'.2.2.2⟩ hgd' h2
      · exact moveClones_e3r A _ c l o R C L _ _ A' _ c' l' o' R' C' L' w hga hgb hA hA' hW hW' rfl rfl hnc hnc' hq.1 hq'.1 hb rfl rfl hL hR hrr hb' hgd' h1

end Go.Proofs.Ytamndbeffbcppaa
