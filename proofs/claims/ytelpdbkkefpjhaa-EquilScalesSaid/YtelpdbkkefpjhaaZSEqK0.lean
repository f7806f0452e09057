/-
EquilScales, where nothing is scaled. Conditions: as each says.
-/
import Derived.Test.YtelpdbkkefpjhaaZSEqF
import Derived.Test.YtelpdbkkefpjhaaZSEqJ
import Derived.Test.YtelpdbkkefpjhaaWSi
set_option linter.unusedVariables false
set_option linter.unusedSimpArgs false
set_option linter.unnecessarySimpa false
namespace Go.Proofs.Ytelpdbkkefpjhaa
open Go.RowKit
attribute [local go_sem ↓] Go.wp_at_zero Go.wp_at_succ

set_option maxRecDepth 100000 in
set_option maxHeartbeats 2000000 in
theorem equilScales_great (Am : Option Addr) (nm cm : Nat) (lm : List Nat) (mo mr mk ml : Int)  (B : Option Addr) (rn rc : Nat) (zr : List Int) (E : Option Addr) (kn kc : Nat) (zc : List Int) (w : World) (h : greatB nm mr mk = true ∨ 60 < rn ∨ 60 < kn) :
    Calls Try.prog 4 #[mat Am nm cm mo mr mk ml, .slice B rn rc, .slice E kn kc] w fun e w' => e = .returned (.bool true) ∧ Below w.heap.size w w' := by
  have HGr := Lib.hid (fun W => great_any Am nm cm mo mr mk ml W)
  obtain ⟨b1, hb1⟩ : ∃ b, greatB nm mr mk = b := ⟨_, rfl⟩
  obtain ⟨b2, hb2⟩ : ∃ b, decide ((60 : Int) < (rn : Int)) = b := ⟨_, rfl⟩
  obtain ⟨b3, hb3⟩ : ∃ b, decide ((60 : Int) < (kn : Int)) = b := ⟨_, rfl⟩
  have hq : b1 = true ∨ (b1 = false ∧ b2 = true) ∨ (b1 = false ∧ b2 = false ∧ b3 = true) := by
    rcases h with h | h | h
    · rw [← hb1]; exact .inl h
    · have : b2 = true := by rw [← hb2]; simp; omega
      cases b1
      · exact .inr (.inl ⟨rfl, this⟩)
      · exact .inl rfl
    · have : b3 = true := by rw [← hb3]; simp; omega
      cases b1
      · cases b2
        · exact .inr (.inr ⟨rfl, rfl, this⟩)
        · exact .inr (.inl ⟨rfl, rfl⟩)
      · exact .inl rfl
  rw [hb1] at HGr
  clear h hb1
  rcases hq with rfl | ⟨rfl, rfl⟩ | ⟨rfl, rfl, rfl⟩
  · skip
    unfold mat at *
    go_enter Try.func4, Try.ntmps4
    have Hm0 := Lib.hid (Blk.new w 24 #[.slice Am nm cm, .int .i64 mo, .int .i64 mr, .int .i64 mk, .int .i64 ml])
    have HB0 := Lib.hid ((Below.refl w.heap.size w).alloc (Nat.le_refl _) (.cells #[.slice Am nm cm, .int .i64 mo, .int .i64 mr, .int .i64 mk, .int .i64 ml] 24))
    obtain ⟨m0, m1, m2, m3, m4⟩ := cells5 Hm0.out
    go_wp2_with fail
    refine (awake15_any _).mono ?_
    rintro e w1 ⟨rfl, hb⟩
    have Hm1 := Lib.hid (Hm0.out.nxt hb)
    have HB1 := Lib.hid (below_nx HB0.out hb)
    clear hb
    clear m0 m1 m2 m3 m4
    obtain ⟨m0, m1, m2, m3, m4⟩ := cells5 Hm1.out
    go_wp2_with fail
    refine (HGr.out _).mono ?_
    rintro e w2 ⟨rfl, hb⟩
    have Hm2 := Lib.hid (Hm1.out.nxt hb)
    have HB2 := Lib.hid (below_nx HB1.out hb)
    clear hb
    clear m0 m1 m2 m3 m4
    obtain ⟨m0, m1, m2, m3, m4⟩ := cells5 Hm2.out
    go_wp2_with fail
    refine (awake15_any _).mono ?_
    rintro e w3 ⟨rfl, hb⟩
    have Hm3 := Lib.hid (Hm2.out.nxt hb)
    have HB3 := Lib.hid (below_nx HB2.out hb)
    clear hb
    clear m0 m1 m2 m3 m4
    obtain ⟨m0, m1, m2, m3, m4⟩ := cells5 Hm3.out
    go_wp2_with fail
    go_ret
    exact ⟨rfl, HB3.out⟩
  · skip
    unfold mat at *
    go_enter Try.func4, Try.ntmps4
    have Hm0 := Lib.hid (Blk.new w 24 #[.slice Am nm cm, .int .i64 mo, .int .i64 mr, .int .i64 mk, .int .i64 ml])
    have HB0 := Lib.hid ((Below.refl w.heap.size w).alloc (Nat.le_refl _) (.cells #[.slice Am nm cm, .int .i64 mo, .int .i64 mr, .int .i64 mk, .int .i64 ml] 24))
    obtain ⟨m0, m1, m2, m3, m4⟩ := cells5 Hm0.out
    go_wp2_with fail
    refine (awake15_any _).mono ?_
    rintro e w1 ⟨rfl, hb⟩
    have Hm1 := Lib.hid (Hm0.out.nxt hb)
    have HB1 := Lib.hid (below_nx HB0.out hb)
    clear hb
    clear m0 m1 m2 m3 m4
    obtain ⟨m0, m1, m2, m3, m4⟩ := cells5 Hm1.out
    go_wp2_with fail
    refine (HGr.out _).mono ?_
    rintro e w2 ⟨rfl, hb⟩
    have Hm2 := Lib.hid (Hm1.out.nxt hb)
    have HB2 := Lib.hid (below_nx HB1.out hb)
    clear hb
    clear m0 m1 m2 m3 m4
    obtain ⟨m0, m1, m2, m3, m4⟩ := cells5 Hm2.out
    go_wp2_with fail
    refine (awake15_any _).mono ?_
    rintro e w3 ⟨rfl, hb⟩
    have Hm3 := Lib.hid (Hm2.out.nxt hb)
    have HB3 := Lib.hid (below_nx HB2.out hb)
    clear hb
    clear m0 m1 m2 m3 m4
    obtain ⟨m0, m1, m2, m3, m4⟩ := cells5 Hm3.out
    go_wp2_with fail
    go_ret
    exact ⟨rfl, HB3.out⟩
  · skip
    unfold mat at *
    go_enter Try.func4, Try.ntmps4
    have Hm0 := Lib.hid (Blk.new w 24 #[.slice Am nm cm, .int .i64 mo, .int .i64 mr, .int .i64 mk, .int .i64 ml])
    have HB0 := Lib.hid ((Below.refl w.heap.size w).alloc (Nat.le_refl _) (.cells #[.slice Am nm cm, .int .i64 mo, .int .i64 mr, .int .i64 mk, .int .i64 ml] 24))
    obtain ⟨m0, m1, m2, m3, m4⟩ := cells5 Hm0.out
    go_wp2_with fail
    refine (awake15_any _).mono ?_
    rintro e w1 ⟨rfl, hb⟩
    have Hm1 := Lib.hid (Hm0.out.nxt hb)
    have HB1 := Lib.hid (below_nx HB0.out hb)
    clear hb
    clear m0 m1 m2 m3 m4
    obtain ⟨m0, m1, m2, m3, m4⟩ := cells5 Hm1.out
    go_wp2_with fail
    refine (HGr.out _).mono ?_
    rintro e w2 ⟨rfl, hb⟩
    have Hm2 := Lib.hid (Hm1.out.nxt hb)
    have HB2 := Lib.hid (below_nx HB1.out hb)
    clear hb
    clear m0 m1 m2 m3 m4
    obtain ⟨m0, m1, m2, m3, m4⟩ := cells5 Hm2.out
    go_wp2_with fail
    refine (awake15_any _).mono ?_
    rintro e w3 ⟨rfl, hb⟩
    have Hm3 := Lib.hid (Hm2.out.nxt hb)
    have HB3 := Lib.hid (below_nx HB2.out hb)
    clear hb
    clear m0 m1 m2 m3 m4
    obtain ⟨m0, m1, m2, m3, m4⟩ := cells5 Hm3.out
    go_wp2_with fail
    go_ret
    exact ⟨rfl, HB3.out⟩

set_option maxRecDepth 100000 in
set_option maxHeartbeats 4000000 in
theorem equilScales_bad (Am : Option Addr) (nm cm : Nat) (lm : List Nat) (mo mr mk ml : Int)  (B : Option Addr) (rn rc : Nat) (zr : List Int) (E : Option Addr) (kn kc : Nat) (zc : List Int) (w : World) (hA : Row w Am (f64s lm)) (hW : Wds lm) (hl : lm.length = nm) (hn : nm ≤ 1000) (hr60 : rn ≤ 60) (hc60 : kn ≤ 60) (hG : greatB nm mr mk = false) (ho : I64 mo) (hr : I64 mr) (hk : I64 mk) (hi : I64 ml) (hgd : matB nm mo mr mk ml = false) :
    Calls Try.prog 4 #[mat Am nm cm mo mr mk ml, .slice B rn rc, .slice E kn kc] w fun e w' => e = .returned (.bool true) ∧ Below w.heap.size w w' := by
  have HGr := Lib.hid (fun W => great_any Am nm cm mo mr mk ml W)
  rw [hG] at HGr
  have HAp := Lib.hid (fun W (hb : Below w.heap.size w W) => show Calls Try.prog 14 #[mat Am nm cm mo mr mk ml] W fun e w' => ∃ g c', nm ≤ c' ∧ e = .returned (mat (some ⟨g, 0, none⟩) nm c' mo mr mk ml) ∧ Own w' g lm ∧ W.heap.size ≤ g ∧ Below W.heap.size W w' from by
    have := rapart_any Am cm lm mo mr mk ml W (hA.below hb) (by omega)
    rw [hl] at this
    exact this.mono fun e w' ⟨g, c', e1, e2, e3, h5, _, e4⟩ => ⟨g, c', h5, e1, e2, e3, e4⟩)
  have HGd := Lib.hid (fun W => rgood_any Am nm cm mo mr mk ml W (by omega) ho hr hk hi)
  rw [hgd] at HGd
  have HAm := Lib.hid hA
  have HAll := Lib.hid (fun W (A B : Option Addr) (c d : Nat) (h1 : Row W A (f64s lm)) (h2 : Row W B (f64s lm)) => show Calls Try.prog 17 #[.slice A nm c, .slice B nm d] W fun e w' => e = .returned (.bool true) ∧ Below W.heap.size W w' from by
    have := rall_any A B c d lm lm W hW hW h1 h2 (by omega) (Alike.refl lm)
    rw [hl] at this; exact this)
  have d1 : decide ((60 : Int) < (rn : Int)) = false := by simp; omega
  have d2 : decide ((60 : Int) < (kn : Int)) = false := by simp; omega
  have HSc := Lib.hid (fun (g c : Nat) W (_ : nm ≤ c) (_ : Own W g lm) => eqscale_bad (some ⟨g, 0, none⟩) nm c mo mr mk ml B rn rc E kn kc W (by omega) ho hr hk hi hgd)
  have HEx := Lib.hid (fun (g c : Nat) W (_ : nm ≤ c) (_ : Own W g lm) => eqexact_bad (some ⟨g, 0, none⟩) nm c mo mr mk ml B rn rc E kn kc W (by omega) ho hr hk hi hgd)
  clear hA hW hl hn hr60 hc60 hG ho hr hk hi hgd
  unfold mat at *
  go_enter Try.func4, Try.ntmps4
  have Hm0 := Lib.hid (Blk.new w 24 #[.slice Am nm cm, .int .i64 mo, .int .i64 mr, .int .i64 mk, .int .i64 ml])
  have HB0 := Lib.hid ((Below.refl w.heap.size w).alloc (Nat.le_refl _) (.cells #[.slice Am nm cm, .int .i64 mo, .int .i64 mr, .int .i64 mk, .int .i64 ml] 24))
  obtain ⟨m0, m1, m2, m3, m4⟩ := cells5 Hm0.out
  go_wp2_with fail
  refine (awake15_any _).mono ?_
  rintro e w1 ⟨rfl, hb⟩
  have Hm1 := Lib.hid (Hm0.out.nxt hb)
  have HB1 := Lib.hid (below_nx HB0.out hb)
  clear hb
  clear m0 m1 m2 m3 m4
  obtain ⟨m0, m1, m2, m3, m4⟩ := cells5 Hm1.out
  go_wp2_with fail
  refine (HGr.out _).mono ?_
  rintro e w2 ⟨rfl, hb⟩
  have Hm2 := Lib.hid (Hm1.out.nxt hb)
  have HB2 := Lib.hid (below_nx HB1.out hb)
  clear hb
  clear m0 m1 m2 m3 m4
  obtain ⟨m0, m1, m2, m3, m4⟩ := cells5 Hm2.out
  go_wp2_with fail
  refine (HAp.out _ HB2.out).mono ?_
  rintro e w3 ⟨gn, cn, hcn, rfl, hOn, hgn, hb⟩
  have HCn := Lib.hid hcn
  have Hm3 := Lib.hid (Hm2.out.nxt hb)
  have HB3 := Lib.hid (below_nx HB2.out hb)
  clear hb
  clear m0 m1 m2 m3 m4
  obtain ⟨m0, m1, m2, m3, m4⟩ := cells5 Hm3.out
  have Hn3 := Lib.hid hOn
  clear hOn hgn hcn
  have Hm4 := Lib.hid (Hm3.out.alloc (.cells #[.slice (some ⟨gn, 0, none⟩) nm cn, .int .i64 mo, .int .i64 mr, .int .i64 mk, .int .i64 ml] 24))
  have Hn4 := Lib.hid (Hn3.out.nxt (below_one (o := (.cells #[.slice (some ⟨gn, 0, none⟩) nm cn, .int .i64 mo, .int .i64 mr, .int .i64 mk, .int .i64 ml] 24))))
  have Hk4 := Lib.hid (Blk.new w3 24 #[.slice (some ⟨gn, 0, none⟩) nm cn, .int .i64 mo, .int .i64 mr, .int .i64 mk, .int .i64 ml])
  have HB4 := Lib.hid (below_al HB3.out (o := (.cells #[.slice (some ⟨gn, 0, none⟩) nm cn, .int .i64 mo, .int .i64 mr, .int .i64 mk, .int .i64 ml] 24)))
  clear m0 m1 m2 m3 m4
  obtain ⟨m0, m1, m2, m3, m4⟩ := cells5 Hm4.out
  obtain ⟨k0, k1, k2, k3, k4⟩ := cells5 Hk4.out
  go_wp2_with fail
  clear m0 m1 m2 m3 m4 k0 k1 k2 k3 k4
  generalize hq9 : w3.alloc (.cells #[.slice (some ⟨gn, 0, none⟩) nm cn, .int .i64 mo, .int .i64 mr, .int .i64 mk, .int .i64 ml] 24) = w4 at *
  clear hq9
  generalize w3.heap.size = pn at *
  obtain ⟨m0, m1, m2, m3, m4⟩ := cells5 Hm4.out
  obtain ⟨k0, k1, k2, k3, k4⟩ := cells5 Hk4.out
  refine (HSc.out gn cn _ HCn.out Hn4.out).mono ?_
  rintro e w5 ⟨rfl, hb⟩
  have Hm5 := Lib.hid (Hm4.out.nxt hb)
  have Hk5 := Lib.hid (Hk4.out.nxt hb)
  have Hn5 := Lib.hid (Hn4.out.nxt hb)
  have HB5 := Lib.hid (below_nx HB4.out hb)
  clear hb
  clear m0 m1 m2 m3 m4 k0 k1 k2 k3 k4
  obtain ⟨m0, m1, m2, m3, m4⟩ := cells5 Hm5.out
  obtain ⟨k0, k1, k2, k3, k4⟩ := cells5 Hk5.out
  have Hm6 := Lib.hid (Hm5.out.alloc (.cells #[.slice none 0 0, .int .i64 0, .int .i64 0, .int .i64 0, .int .i64 0] 24))
  have Hk6 := Lib.hid (Hk5.out.alloc (.cells #[.slice none 0 0, .int .i64 0, .int .i64 0, .int .i64 0, .int .i64 0] 24))
  have Hn6 := Lib.hid (Hn5.out.nxt (below_one (o := (.cells #[.slice none 0 0, .int .i64 0, .int .i64 0, .int .i64 0, .int .i64 0] 24))))
  have Hx6 := Lib.hid (Blk.new w5 24 #[.slice none 0 0, .int .i64 0, .int .i64 0, .int .i64 0, .int .i64 0])
  have HB6 := Lib.hid (below_al HB5.out (o := (.cells #[.slice none 0 0, .int .i64 0, .int .i64 0, .int .i64 0, .int .i64 0] 24)))
  clear m0 m1 m2 m3 m4 k0 k1 k2 k3 k4
  obtain ⟨m0, m1, m2, m3, m4⟩ := cells5 Hm6.out
  obtain ⟨k0, k1, k2, k3, k4⟩ := cells5 Hk6.out
  obtain ⟨x0, x1, x2, x3, x4⟩ := cells5 Hx6.out
  go_wp2_with fail
  clear m0 m1 m2 m3 m4 k0 k1 k2 k3 k4 x0 x1 x2 x3 x4
  generalize hq9 : w5.alloc (.cells #[.slice none 0 0, .int .i64 0, .int .i64 0, .int .i64 0, .int .i64 0] 24) = w6 at *
  clear hq9
  generalize w5.heap.size = px at *
  obtain ⟨m0, m1, m2, m3, m4⟩ := cells5 Hm6.out
  obtain ⟨k0, k1, k2, k3, k4⟩ := cells5 Hk6.out
  obtain ⟨x0, x1, x2, x3, x4⟩ := cells5 Hx6.out
  refine (HEx.out gn cn _ HCn.out Hn6.out).mono ?_
  rintro e w7 ⟨rfl, hb⟩
  have Hm7 := Lib.hid (Hm6.out.nxt hb)
  have Hk7 := Lib.hid (Hk6.out.nxt hb)
  have Hx7 := Lib.hid (Hx6.out.nxt hb)
  have Hn7 := Lib.hid (Hn6.out.nxt hb)
  have HB7 := Lib.hid (below_nx HB6.out hb)
  clear hb
  clear m0 m1 m2 m3 m4 k0 k1 k2 k3 k4 x0 x1 x2 x3 x4
  obtain ⟨m0, m1, m2, m3, m4⟩ := cells5 Hm7.out
  obtain ⟨k0, k1, k2, k3, k4⟩ := cells5 Hk7.out
  obtain ⟨x0, x1, x2, x3, x4⟩ := cells5 Hx7.out
  go_wp2_with fail
  refine (HAll.out _ _ _ _ _ Hn7.out.row (HAm.out.below HB7.out)).mono ?_
  rintro e w8 ⟨rfl, hb⟩
  have Hm8 := Lib.hid (Hm7.out.nxt hb)
  have Hk8 := Lib.hid (Hk7.out.nxt hb)
  have Hx8 := Lib.hid (Hx7.out.nxt hb)
  have Hn8 := Lib.hid (Hn7.out.nxt hb)
  have HB8 := Lib.hid (below_nx HB7.out hb)
  clear hb
  clear m0 m1 m2 m3 m4 k0 k1 k2 k3 k4 x0 x1 x2 x3 x4
  obtain ⟨m0, m1, m2, m3, m4⟩ := cells5 Hm8.out
  obtain ⟨k0, k1, k2, k3, k4⟩ := cells5 Hk8.out
  obtain ⟨x0, x1, x2, x3, x4⟩ := cells5 Hx8.out
  go_wp2_with fail
  refine (HGd.out _).mono ?_
  rintro e w9 ⟨rfl, hb⟩
  have Hm9 := Lib.hid (Hm8.out.nxt hb)
  have Hk9 := Lib.hid (Hk8.out.nxt hb)
  have Hx9 := Lib.hid (Hx8.out.nxt hb)
  have Hn9 := Lib.hid (Hn8.out.nxt hb)
  have HB9 := Lib.hid (below_nx HB8.out hb)
  clear hb
  clear m0 m1 m2 m3 m4 k0 k1 k2 k3 k4 x0 x1 x2 x3 x4
  obtain ⟨m0, m1, m2, m3, m4⟩ := cells5 Hm9.out
  obtain ⟨k0, k1, k2, k3, k4⟩ := cells5 Hk9.out
  obtain ⟨x0, x1, x2, x3, x4⟩ := cells5 Hx9.out
  go_wp2_with fail
  refine (awake15_any _).mono ?_
  rintro e wa ⟨rfl, hb⟩
  have Hm10 := Lib.hid (Hm9.out.nxt hb)
  have Hk10 := Lib.hid (Hk9.out.nxt hb)
  have Hx10 := Lib.hid (Hx9.out.nxt hb)
  have Hn10 := Lib.hid (Hn9.out.nxt hb)
  have HB10 := Lib.hid (below_nx HB9.out hb)
  clear hb
  clear m0 m1 m2 m3 m4 k0 k1 k2 k3 k4 x0 x1 x2 x3 x4
  obtain ⟨m0, m1, m2, m3, m4⟩ := cells5 Hm10.out
  obtain ⟨k0, k1, k2, k3, k4⟩ := cells5 Hk10.out
  obtain ⟨x0, x1, x2, x3, x4⟩ := cells5 Hx10.out
  go_wp2_with fail
  go_ret
  exact ⟨rfl, HB10.out⟩

set_option maxRecDepth 100000 in
set_option maxHeartbeats 4000000 in
theorem equilScales_size (Am : Option Addr) (nm cm : Nat) (lm : List Nat) (o R C L : Nat)  (B : Option Addr) (rn rc : Nat) (zr : List Int) (E : Option Addr) (kn kc : Nat) (zc : List Int) (w : World) (hA : Row w Am (f64s lm)) (hW : Wds lm) (hl : lm.length = nm) (hn : nm ≤ 1000) (hr60 : rn ≤ 60) (hc60 : kn ≤ 60) (hG : greatB nm (R : Int) (C : Int) = false) (hM20 : R ≤ 20 ∧ C ≤ 20) (ho : I64 (o : Int)) (hi : I64 (L : Int)) (hL1 : 1 ≤ L) (hRL : R ≤ L) (hmr : R = 0 ∨ C = 0 ∨ o + (C - 1) * L + (R - 1) < nm) (b1 b2 : Bool) (hb1 : ((rn : Int) != (R : Int)) = b1) (hb2 : ((kn : Int) != (C : Int)) = b2) (hbb : b1 = true ∨ (b1 = false ∧ b2 = true)) :
    Calls Try.prog 4 #[mat Am nm cm o R C L, .slice B rn rc, .slice E kn kc] w fun e w' => e = .returned (.bool true) ∧ Below w.heap.size w w' := by
  have hr : I64 (R : Int) := by unfold I64; omega
  have hk : I64 (C : Int) := by unfold I64; omega
  have hgd : matB nm (o : Int) (R : Int) (C : Int) (L : Int) = true := mat_right hL1 hRL hmr
  have HGr := Lib.hid (fun W => great_any Am nm cm o R C L W)
  rw [hG] at HGr
  have HAp := Lib.hid (fun W (hb : Below w.heap.size w W) => show Calls Try.prog 14 #[mat Am nm cm o R C L] W fun e w' => ∃ g c', nm ≤ c' ∧ e = .returned (mat (some ⟨g, 0, none⟩) nm c' o R C L) ∧ Own w' g lm ∧ W.heap.size ≤ g ∧ Below W.heap.size W w' from by
    have := rapart_any Am cm lm o R C L W (hA.below hb) (by omega)
    rw [hl] at this
    exact this.mono fun e w' ⟨g, c', e1, e2, e3, h5, _, e4⟩ => ⟨g, c', h5, e1, e2, e3, e4⟩)
  have HGd := Lib.hid (fun W => rgood_any Am nm cm o R C L W (by omega) ho hr hk hi)
  rw [hgd] at HGd
  have HAm := Lib.hid hA
  have HAll := Lib.hid (fun W (A B : Option Addr) (c d : Nat) (h1 : Row W A (f64s lm)) (h2 : Row W B (f64s lm)) => show Calls Try.prog 17 #[.slice A nm c, .slice B nm d] W fun e w' => e = .returned (.bool true) ∧ Below W.heap.size W w' from by
    have := rall_any A B c d lm lm W hW hW h1 h2 (by omega) (Alike.refl lm)
    rw [hl] at this; exact this)
  have d1 : decide ((60 : Int) < (rn : Int)) = false := by simp; omega
  have d2 : decide ((60 : Int) < (kn : Int)) = false := by simp; omega
  have hns : ¬ ((rn : Int) = (R : Int) ∧ (kn : Int) = (C : Int)) := by
    rintro ⟨e1, e2⟩
    rcases hbb with h | ⟨_, h⟩
    · rw [← hb1] at h; simp at h; exact h (by omega)
    · rw [← hb2] at h; simp at h; exact h (by omega)
  have HSc := Lib.hid (fun (g c : Nat) W (hc : nm ≤ c) (hO : Own W g lm) => eqscale_size (some ⟨g, 0, none⟩) nm c lm o R C L B rn rc E kn kc W hO.row hl hc (by omega) ho hi (by omega) (by omega) hL1 hRL hmr hns)
  have HEx := Lib.hid (fun (g c : Nat) W (hc : nm ≤ c) (hO : Own W g lm) => eqexact_size (some ⟨g, 0, none⟩) nm c lm o R C L B rn rc E kn kc W hO.row hl hc (by omega) ho hi (by omega) (by omega) hL1 hRL hmr hns)
  clear hA hW hl hn hr60 hc60 hG hM20 ho hi hL1 hRL hmr hr hk hgd hns
  rcases hbb with rfl | ⟨rfl, rfl⟩
  · skip
    unfold mat at *
    go_enter Try.func4, Try.ntmps4
    have Hm0 := Lib.hid (Blk.new w 24 #[.slice Am nm cm, .int .i64 (o : Int), .int .i64 (R : Int), .int .i64 (C : Int), .int .i64 (L : Int)])
    have HB0 := Lib.hid ((Below.refl w.heap.size w).alloc (Nat.le_refl _) (.cells #[.slice Am nm cm, .int .i64 (o : Int), .int .i64 (R : Int), .int .i64 (C : Int), .int .i64 (L : Int)] 24))
    obtain ⟨m0, m1, m2, m3, m4⟩ := cells5 Hm0.out
    go_wp2_with fail
    refine (awake15_any _).mono ?_
    rintro e w1 ⟨rfl, hb⟩
    have Hm1 := Lib.hid (Hm0.out.nxt hb)
    have HB1 := Lib.hid (below_nx HB0.out hb)
    clear hb
    clear m0 m1 m2 m3 m4
    obtain ⟨m0, m1, m2, m3, m4⟩ := cells5 Hm1.out
    go_wp2_with fail
    refine (HGr.out _).mono ?_
    rintro e w2 ⟨rfl, hb⟩
    have Hm2 := Lib.hid (Hm1.out.nxt hb)
    have HB2 := Lib.hid (below_nx HB1.out hb)
    clear hb
    clear m0 m1 m2 m3 m4
    obtain ⟨m0, m1, m2, m3, m4⟩ := cells5 Hm2.out
    go_wp2_with fail
    refine (HAp.out _ HB2.out).mono ?_
    rintro e w3 ⟨gn, cn, hcn, rfl, hOn, hgn, hb⟩
    have HCn := Lib.hid hcn
    have Hm3 := Lib.hid (Hm2.out.nxt hb)
    have HB3 := Lib.hid (below_nx HB2.out hb)
    clear hb
    clear m0 m1 m2 m3 m4
    obtain ⟨m0, m1, m2, m3, m4⟩ := cells5 Hm3.out
    have Hn3 := Lib.hid hOn
    clear hOn hgn hcn
    have Hm4 := Lib.hid (Hm3.out.alloc (.cells #[.slice (some ⟨gn, 0, none⟩) nm cn, .int .i64 (o : Int), .int .i64 (R : Int), .int .i64 (C : Int), .int .i64 (L : Int)] 24))
    have Hn4 := Lib.hid (Hn3.out.nxt (below_one (o := (.cells #[.slice (some ⟨gn, 0, none⟩) nm cn, .int .i64 (o : Int), .int .i64 (R : Int), .int .i64 (C : Int), .int .i64 (L : Int)] 24))))
    have Hk4 := Lib.hid (Blk.new w3 24 #[.slice (some ⟨gn, 0, none⟩) nm cn, .int .i64 (o : Int), .int .i64 (R : Int), .int .i64 (C : Int), .int .i64 (L : Int)])
    have HB4 := Lib.hid (below_al HB3.out (o := (.cells #[.slice (some ⟨gn, 0, none⟩) nm cn, .int .i64 (o : Int), .int .i64 (R : Int), .int .i64 (C : Int), .int .i64 (L : Int)] 24)))
    clear m0 m1 m2 m3 m4
    obtain ⟨m0, m1, m2, m3, m4⟩ := cells5 Hm4.out
    obtain ⟨k0, k1, k2, k3, k4⟩ := cells5 Hk4.out
    go_wp2_with fail
    clear m0 m1 m2 m3 m4 k0 k1 k2 k3 k4
    generalize hq9 : w3.alloc (.cells #[.slice (some ⟨gn, 0, none⟩) nm cn, .int .i64 (o : Int), .int .i64 (R : Int), .int .i64 (C : Int), .int .i64 (L : Int)] 24) = w4 at *
    clear hq9
    generalize w3.heap.size = pn at *
    obtain ⟨m0, m1, m2, m3, m4⟩ := cells5 Hm4.out
    obtain ⟨k0, k1, k2, k3, k4⟩ := cells5 Hk4.out
    refine (HSc.out gn cn _ HCn.out Hn4.out).mono ?_
    rintro e w5 ⟨rfl, hb⟩
    have Hm5 := Lib.hid (Hm4.out.nxt hb)
    have Hk5 := Lib.hid (Hk4.out.nxt hb)
    have Hn5 := Lib.hid (Hn4.out.nxt hb)
    have HB5 := Lib.hid (below_nx HB4.out hb)
    clear hb
    clear m0 m1 m2 m3 m4 k0 k1 k2 k3 k4
    obtain ⟨m0, m1, m2, m3, m4⟩ := cells5 Hm5.out
    obtain ⟨k0, k1, k2, k3, k4⟩ := cells5 Hk5.out
    have Hm6 := Lib.hid (Hm5.out.alloc (.cells #[.slice none 0 0, .int .i64 0, .int .i64 0, .int .i64 0, .int .i64 0] 24))
    have Hk6 := Lib.hid (Hk5.out.alloc (.cells #[.slice none 0 0, .int .i64 0, .int .i64 0, .int .i64 0, .int .i64 0] 24))
    have Hn6 := Lib.hid (Hn5.out.nxt (below_one (o := (.cells #[.slice none 0 0, .int .i64 0, .int .i64 0, .int .i64 0, .int .i64 0] 24))))
    have Hx6 := Lib.hid (Blk.new w5 24 #[.slice none 0 0, .int .i64 0, .int .i64 0, .int .i64 0, .int .i64 0])
    have HB6 := Lib.hid (below_al HB5.out (o := (.cells #[.slice none 0 0, .int .i64 0, .int .i64 0, .int .i64 0, .int .i64 0] 24)))
    clear m0 m1 m2 m3 m4 k0 k1 k2 k3 k4
    obtain ⟨m0, m1, m2, m3, m4⟩ := cells5 Hm6.out
    obtain ⟨k0, k1, k2, k3, k4⟩ := cells5 Hk6.out
    obtain ⟨x0, x1, x2, x3, x4⟩ := cells5 Hx6.out
    go_wp2_with fail
    clear m0 m1 m2 m3 m4 k0 k1 k2 k3 k4 x0 x1 x2 x3 x4
    generalize hq9 : w5.alloc (.cells #[.slice none 0 0, .int .i64 0, .int .i64 0, .int .i64 0, .int .i64 0] 24) = w6 at *
    clear hq9
    generalize w5.heap.size = px at *
    obtain ⟨m0, m1, m2, m3, m4⟩ := cells5 Hm6.out
    obtain ⟨k0, k1, k2, k3, k4⟩ := cells5 Hk6.out
    obtain ⟨x0, x1, x2, x3, x4⟩ := cells5 Hx6.out
    refine (HEx.out gn cn _ HCn.out Hn6.out).mono ?_
    rintro e w7 ⟨rfl, hb⟩
    have Hm7 := Lib.hid (Hm6.out.nxt hb)
    have Hk7 := Lib.hid (Hk6.out.nxt hb)
    have Hx7 := Lib.hid (Hx6.out.nxt hb)
    have Hn7 := Lib.hid (Hn6.out.nxt hb)
    have HB7 := Lib.hid (below_nx HB6.out hb)
    clear hb
    clear m0 m1 m2 m3 m4 k0 k1 k2 k3 k4 x0 x1 x2 x3 x4
    obtain ⟨m0, m1, m2, m3, m4⟩ := cells5 Hm7.out
    obtain ⟨k0, k1, k2, k3, k4⟩ := cells5 Hk7.out
    obtain ⟨x0, x1, x2, x3, x4⟩ := cells5 Hx7.out
    go_wp2_with fail
    refine (HAll.out _ _ _ _ _ Hn7.out.row (HAm.out.below HB7.out)).mono ?_
    rintro e w8 ⟨rfl, hb⟩
    have Hm8 := Lib.hid (Hm7.out.nxt hb)
    have Hk8 := Lib.hid (Hk7.out.nxt hb)
    have Hx8 := Lib.hid (Hx7.out.nxt hb)
    have Hn8 := Lib.hid (Hn7.out.nxt hb)
    have HB8 := Lib.hid (below_nx HB7.out hb)
    clear hb
    clear m0 m1 m2 m3 m4 k0 k1 k2 k3 k4 x0 x1 x2 x3 x4
    obtain ⟨m0, m1, m2, m3, m4⟩ := cells5 Hm8.out
    obtain ⟨k0, k1, k2, k3, k4⟩ := cells5 Hk8.out
    obtain ⟨x0, x1, x2, x3, x4⟩ := cells5 Hx8.out
    go_wp2_with fail
    refine (HGd.out _).mono ?_
    rintro e w9 ⟨rfl, hb⟩
    have Hm9 := Lib.hid (Hm8.out.nxt hb)
    have Hk9 := Lib.hid (Hk8.out.nxt hb)
    have Hx9 := Lib.hid (Hx8.out.nxt hb)
    have Hn9 := Lib.hid (Hn8.out.nxt hb)
    have HB9 := Lib.hid (below_nx HB8.out hb)
    clear hb
    clear m0 m1 m2 m3 m4 k0 k1 k2 k3 k4 x0 x1 x2 x3 x4
    obtain ⟨m0, m1, m2, m3, m4⟩ := cells5 Hm9.out
    obtain ⟨k0, k1, k2, k3, k4⟩ := cells5 Hk9.out
    obtain ⟨x0, x1, x2, x3, x4⟩ := cells5 Hx9.out
    go_wp2_with fail
    refine (awake15_any _).mono ?_
    rintro e wa ⟨rfl, hb⟩
    have Hm10 := Lib.hid (Hm9.out.nxt hb)
    have Hk10 := Lib.hid (Hk9.out.nxt hb)
    have Hx10 := Lib.hid (Hx9.out.nxt hb)
    have Hn10 := Lib.hid (Hn9.out.nxt hb)
    have HB10 := Lib.hid (below_nx HB9.out hb)
    clear hb
    clear m0 m1 m2 m3 m4 k0 k1 k2 k3 k4 x0 x1 x2 x3 x4
    obtain ⟨m0, m1, m2, m3, m4⟩ := cells5 Hm10.out
    obtain ⟨k0, k1, k2, k3, k4⟩ := cells5 Hk10.out
    obtain ⟨x0, x1, x2, x3, x4⟩ := cells5 Hx10.out
    go_wp2_with fail
    go_ret
    exact ⟨rfl, HB10.out⟩
  · skip
    unfold mat at *
    go_enter Try.func4, Try.ntmps4
    have Hm0 := Lib.hid (Blk.new w 24 #[.slice Am nm cm, .int .i64 (o : Int), .int .i64 (R : Int), .int .i64 (C : Int), .int .i64 (L : Int)])
    have HB0 := Lib.hid ((Below.refl w.heap.size w).alloc (Nat.le_refl _) (.cells #[.slice Am nm cm, .int .i64 (o : Int), .int .i64 (R : Int), .int .i64 (C : Int), .int .i64 (L : Int)] 24))
    obtain ⟨m0, m1, m2, m3, m4⟩ := cells5 Hm0.out
    go_wp2_with fail
    refine (awake15_any _).mono ?_
    rintro e w1 ⟨rfl, hb⟩
    have Hm1 := Lib.hid (Hm0.out.nxt hb)
    have HB1 := Lib.hid (below_nx HB0.out hb)
    clear hb
    clear m0 m1 m2 m3 m4
    obtain ⟨m0, m1, m2, m3, m4⟩ := cells5 Hm1.out
    go_wp2_with fail
    refine (HGr.out _).mono ?_
    rintro e w2 ⟨rfl, hb⟩
    have Hm2 := Lib.hid (Hm1.out.nxt hb)
    have HB2 := Lib.hid (below_nx HB1.out hb)
    clear hb
    clear m0 m1 m2 m3 m4
    obtain ⟨m0, m1, m2, m3, m4⟩ := cells5 Hm2.out
    go_wp2_with fail
    refine (HAp.out _ HB2.out).mono ?_
    rintro e w3 ⟨gn, cn, hcn, rfl, hOn, hgn, hb⟩
    have HCn := Lib.hid hcn
    have Hm3 := Lib.hid (Hm2.out.nxt hb)
    have HB3 := Lib.hid (below_nx HB2.out hb)
    clear hb
    clear m0 m1 m2 m3 m4
    obtain ⟨m0, m1, m2, m3, m4⟩ := cells5 Hm3.out
    have Hn3 := Lib.hid hOn
    clear hOn hgn hcn
    have Hm4 := Lib.hid (Hm3.out.alloc (.cells #[.slice (some ⟨gn, 0, none⟩) nm cn, .int .i64 (o : Int), .int .i64 (R : Int), .int .i64 (C : Int), .int .i64 (L : Int)] 24))
    have Hn4 := Lib.hid (Hn3.out.nxt (below_one (o := (.cells #[.slice (some ⟨gn, 0, none⟩) nm cn, .int .i64 (o : Int), .int .i64 (R : Int), .int .i64 (C : Int), .int .i64 (L : Int)] 24))))
    have Hk4 := Lib.hid (Blk.new w3 24 #[.slice (some ⟨gn, 0, none⟩) nm cn, .int .i64 (o : Int), .int .i64 (R : Int), .int .i64 (C : Int), .int .i64 (L : Int)])
    have HB4 := Lib.hid (below_al HB3.out (o := (.cells #[.slice (some ⟨gn, 0, none⟩) nm cn, .int .i64 (o : Int), .int .i64 (R : Int), .int .i64 (C : Int), .int .i64 (L : Int)] 24)))
    clear m0 m1 m2 m3 m4
    obtain ⟨m0, m1, m2, m3, m4⟩ := cells5 Hm4.out
    obtain ⟨k0, k1, k2, k3, k4⟩ := cells5 Hk4.out
    go_wp2_with fail
    clear m0 m1 m2 m3 m4 k0 k1 k2 k3 k4
    generalize hq9 : w3.alloc (.cells #[.slice (some ⟨gn, 0, none⟩) nm cn, .int .i64 (o : Int), .int .i64 (R : Int), .int .i64 (C : Int), .int .i64 (L : Int)] 24) = w4 at *
    clear hq9
    generalize w3.heap.size = pn at *
    obtain ⟨m0, m1, m2, m3, m4⟩ := cells5 Hm4.out
    obtain ⟨k0, k1, k2, k3, k4⟩ := cells5 Hk4.out
    refine (HSc.out gn cn _ HCn.out Hn4.out).mono ?_
    rintro e w5 ⟨rfl, hb⟩
    have Hm5 := Lib.hid (Hm4.out.nxt hb)
    have Hk5 := Lib.hid (Hk4.out.nxt hb)
    have Hn5 := Lib.hid (Hn4.out.nxt hb)
    have HB5 := Lib.hid (below_nx HB4.out hb)
    clear hb
    clear m0 m1 m2 m3 m4 k0 k1 k2 k3 k4
    obtain ⟨m0, m1, m2, m3, m4⟩ := cells5 Hm5.out
    obtain ⟨k0, k1, k2, k3, k4⟩ := cells5 Hk5.out
    have Hm6 := Lib.hid (Hm5.out.alloc (.cells #[.slice none 0 0, .int .i64 0, .int .i64 0, .int .i64 0, .int .i64 0] 24))
    have Hk6 := Lib.hid (Hk5.out.alloc (.cells #[.slice none 0 0, .int .i64 0, .int .i64 0, .int .i64 0, .int .i64 0] 24))
    have Hn6 := Lib.hid (Hn5.out.nxt (below_one (o := (.cells #[.slice none 0 0, .int .i64 0, .int .i64 0, .int .i64 0, .int .i64 0] 24))))
    have Hx6 := Lib.hid (Blk.new w5 24 #[.slice none 0 0, .int .i64 0, .int .i64 0, .int .i64 0, .int .i64 0])
    have HB6 := Lib.hid (below_al HB5.out (o := (.cells #[.slice none 0 0, .int .i64 0, .int .i64 0, .int .i64 0, .int .i64 0] 24)))
    clear m0 m1 m2 m3 m4 k0 k1 k2 k3 k4
    obtain ⟨m0, m1, m2, m3, m4⟩ := cells5 Hm6.out
    obtain ⟨k0, k1, k2, k3, k4⟩ := cells5 Hk6.out
    obtain ⟨x0, x1, x2, x3, x4⟩ := cells5 Hx6.out
    go_wp2_with fail
    clear m0 m1 m2 m3 m4 k0 k1 k2 k3 k4 x0 x1 x2 x3 x4
    generalize hq9 : w5.alloc (.cells #[.slice none 0 0, .int .i64 0, .int .i64 0, .int .i64 0, .int .i64 0] 24) = w6 at *
    clear hq9
    generalize w5.heap.size = px at *
    obtain ⟨m0, m1, m2, m3, m4⟩ := cells5 Hm6.out
    obtain ⟨k0, k1, k2, k3, k4⟩ := cells5 Hk6.out
    obtain ⟨x0, x1, x2, x3, x4⟩ := cells5 Hx6.out
    refine (HEx.out gn cn _ HCn.out Hn6.out).mono ?_
    rintro e w7 ⟨rfl, hb⟩
    have Hm7 := Lib.hid (Hm6.out.nxt hb)
    have Hk7 := Lib.hid (Hk6.out.nxt hb)
    have Hx7 := Lib.hid (Hx6.out.nxt hb)
    have Hn7 := Lib.hid (Hn6.out.nxt hb)
    have HB7 := Lib.hid (below_nx HB6.out hb)
    clear hb
    clear m0 m1 m2 m3 m4 k0 k1 k2 k3 k4 x0 x1 x2 x3 x4
    obtain ⟨m0, m1, m2, m3, m4⟩ := cells5 Hm7.out
    obtain ⟨k0, k1, k2, k3, k4⟩ := cells5 Hk7.out
    obtain ⟨x0, x1, x2, x3, x4⟩ := cells5 Hx7.out
    go_wp2_with fail
    refine (HAll.out _ _ _ _ _ Hn7.out.row (HAm.out.below HB7.out)).mono ?_
    rintro e w8 ⟨rfl, hb⟩
    have Hm8 := Lib.hid (Hm7.out.nxt hb)
    have Hk8 := Lib.hid (Hk7.out.nxt hb)
    have Hx8 := Lib.hid (Hx7.out.nxt hb)
    have Hn8 := Lib.hid (Hn7.out.nxt hb)
    have HB8 := Lib.hid (below_nx HB7.out hb)
    clear hb
    clear m0 m1 m2 m3 m4 k0 k1 k2 k3 k4 x0 x1 x2 x3 x4
    obtain ⟨m0, m1, m2, m3, m4⟩ := cells5 Hm8.out
    obtain ⟨k0, k1, k2, k3, k4⟩ := cells5 Hk8.out
    obtain ⟨x0, x1, x2, x3, x4⟩ := cells5 Hx8.out
    go_wp2_with fail
    refine (HGd.out _).mono ?_
    rintro e w9 ⟨rfl, hb⟩
    have Hm9 := Lib.hid (Hm8.out.nxt hb)
    have Hk9 := Lib.hid (Hk8.out.nxt hb)
    have Hx9 := Lib.hid (Hx8.out.nxt hb)
    have Hn9 := Lib.hid (Hn8.out.nxt hb)
    have HB9 := Lib.hid (below_nx HB8.out hb)
    clear hb
    clear m0 m1 m2 m3 m4 k0 k1 k2 k3 k4 x0 x1 x2 x3 x4
    obtain ⟨m0, m1, m2, m3, m4⟩ := cells5 Hm9.out
    obtain ⟨k0, k1, k2, k3, k4⟩ := cells5 Hk9.out
    obtain ⟨x0, x1, x2, x3, x4⟩ := cells5 Hx9.out
    go_wp2_with fail
    refine (awake15_any _).mono ?_
    rintro e wa ⟨rfl, hb⟩
    have Hm10 := Lib.hid (Hm9.out.nxt hb)
    have Hk10 := Lib.hid (Hk9.out.nxt hb)
    have Hx10 := Lib.hid (Hx9.out.nxt hb)
    have Hn10 := Lib.hid (Hn9.out.nxt hb)
    have HB10 := Lib.hid (below_nx HB9.out hb)
    clear hb
    clear m0 m1 m2 m3 m4 k0 k1 k2 k3 k4 x0 x1 x2 x3 x4
    obtain ⟨m0, m1, m2, m3, m4⟩ := cells5 Hm10.out
    obtain ⟨k0, k1, k2, k3, k4⟩ := cells5 Hk10.out
    obtain ⟨x0, x1, x2, x3, x4⟩ := cells5 Hx10.out
    go_wp2_with fail
    go_ret
    exact ⟨rfl, HB10.out⟩
end Go.Proofs.Ytelpdbkkefpjhaa
