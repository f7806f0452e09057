/-
GerShifts, walked. Conditions: as each says.
-/
import Derived.Test.YtmjaakngiilmdaaZGrK
set_option linter.unusedVariables false
set_option linter.unusedSimpArgs false
set_option linter.unnecessarySimpa false
namespace Go.Proofs.Ytmjaakngiilmdaa
open Go.RowKit
attribute [local go_sem ↓] Go.wp_at_zero Go.wp_at_succ

set_option maxHeartbeats 2000000 in
theorem gerShifts_great (Am : Option Addr) (nm cm : Nat) (lm : List Nat) (mo mr mk ml : Int)  (B : Option Addr) (rn rc : Nat) (zr : List Int) (D : Option Addr) (cn0 cc : Nat) (zc : List Int) (w : World) (h : greatB nm mr mk = true ∨ 100 < rn ∨ 100 < cn0) :
    Calls Try.prog 5 #[mat Am nm cm mo mr mk ml, .slice B rn rc, .slice D cn0 cc] w fun e w' => e = .returned (.bool true) ∧ Below w.heap.size w w' := by
  have HGr := Lib.hid (fun W => great_any Am nm cm mo mr mk ml W)
  obtain ⟨b1, hb1⟩ : ∃ b, greatB nm mr mk = b := ⟨_, rfl⟩
  obtain ⟨b2, hb2⟩ : ∃ b, decide ((100 : Int) < (rn : Int)) = b := ⟨_, rfl⟩
  obtain ⟨b3, hb3⟩ : ∃ b, decide ((100 : Int) < (cn0 : Int)) = b := ⟨_, rfl⟩
  have hq : b1 = true ∨ (b1 = false ∧ b2 = true) ∨ (b1 = false ∧ b2 = false ∧ b3 = true) := by
    rcases h with h | h | h
    · rw [← hb1]; exact .inl h
    · have : b2 = true := by rw [← hb2]; simp; omega
      cases b1
      · exact .inr (.inl ⟨rfl, this⟩)
      · exact .inl rfl
    · have : b3 = true := by rw [← hb3]; simp; omega
      cases b1
      · cases b2
        · exact .inr (.inr ⟨rfl, rfl, this⟩)
        · exact .inr (.inl ⟨rfl, rfl⟩)
      · exact .inl rfl
  rw [hb1] at HGr
  clear h hb1
  rcases hq with rfl | ⟨rfl, rfl⟩ | ⟨rfl, rfl, rfl⟩
  · skip
    unfold mat at *
    go_enter Try.func5, Try.ntmps5
    have Hm0 := Lib.hid (Blk.new w 26 #[.slice Am nm cm, .int .i64 mo, .int .i64 mr, .int .i64 mk, .int .i64 ml])
    have HB0 := Lib.hid ((Below.refl w.heap.size w).alloc (Nat.le_refl _) (.cells #[.slice Am nm cm, .int .i64 mo, .int .i64 mr, .int .i64 mk, .int .i64 ml] 26))
    obtain ⟨m0, m1, m2, m3, m4⟩ := cells5 Hm0.out
    go_wp2_with fail
    refine (awake8_any _).mono ?_
    rintro e w1 ⟨rfl, hb⟩
    have Hm1 := Lib.hid (Hm0.out.nxt hb)
    have HB1 := Lib.hid (below_nx HB0.out hb)
    clear hb
    clear m0 m1 m2 m3 m4
    obtain ⟨m0, m1, m2, m3, m4⟩ := cells5 Hm1.out
    go_wp2_with fail
    refine (HGr.out _).mono ?_
    rintro e w2 ⟨rfl, hb⟩
    have Hm2 := Lib.hid (Hm1.out.nxt hb)
    have HB2 := Lib.hid (below_nx HB1.out hb)
    clear hb
    clear m0 m1 m2 m3 m4
    obtain ⟨m0, m1, m2, m3, m4⟩ := cells5 Hm2.out
    go_wp2_with fail
    refine (awake8_any _).mono ?_
    rintro e w3 ⟨rfl, hb⟩
    have Hm3 := Lib.hid (Hm2.out.nxt hb)
    have HB3 := Lib.hid (below_nx HB2.out hb)
    clear hb
    clear m0 m1 m2 m3 m4
    obtain ⟨m0, m1, m2, m3, m4⟩ := cells5 Hm3.out
    go_wp2_with fail
    go_ret
    exact ⟨rfl, HB3.out⟩
  · skip
    unfold mat at *
    go_enter Try.func5, Try.ntmps5
    have Hm0 := Lib.hid (Blk.new w 26 #[.slice Am nm cm, .int .i64 mo, .int .i64 mr, .int .i64 mk, .int .i64 ml])
    have HB0 := Lib.hid ((Below.refl w.heap.size w).alloc (Nat.le_refl _) (.cells #[.slice Am nm cm, .int .i64 mo, .int .i64 mr, .int .i64 mk, .int .i64 ml] 26))
    obtain ⟨m0, m1, m2, m3, m4⟩ := cells5 Hm0.out
    go_wp2_with fail
    refine (awake8_any _).mono ?_
    rintro e w1 ⟨rfl, hb⟩
    have Hm1 := Lib.hid (Hm0.out.nxt hb)
    have HB1 := Lib.hid (below_nx HB0.out hb)
    clear hb
    clear m0 m1 m2 m3 m4
    obtain ⟨m0, m1, m2, m3, m4⟩ := cells5 Hm1.out
    go_wp2_with fail
    refine (HGr.out _).mono ?_
    rintro e w2 ⟨rfl, hb⟩
    have Hm2 := Lib.hid (Hm1.out.nxt hb)
    have HB2 := Lib.hid (below_nx HB1.out hb)
    clear hb
    clear m0 m1 m2 m3 m4
    obtain ⟨m0, m1, m2, m3, m4⟩ := cells5 Hm2.out
    go_wp2_with fail
    refine (awake8_any _).mono ?_
    rintro e w3 ⟨rfl, hb⟩
    have Hm3 := Lib.hid (Hm2.out.nxt hb)
    have HB3 := Lib.hid (below_nx HB2.out hb)
    clear hb
    clear m0 m1 m2 m3 m4
    obtain ⟨m0, m1, m2, m3, m4⟩ := cells5 Hm3.out
    go_wp2_with fail
    go_ret
    exact ⟨rfl, HB3.out⟩
  · skip
    unfold mat at *
    go_enter Try.func5, Try.ntmps5
    have Hm0 := Lib.hid (Blk.new w 26 #[.slice Am nm cm, .int .i64 mo, .int .i64 mr, .int .i64 mk, .int .i64 ml])
    have HB0 := Lib.hid ((Below.refl w.heap.size w).alloc (Nat.le_refl _) (.cells #[.slice Am nm cm, .int .i64 mo, .int .i64 mr, .int .i64 mk, .int .i64 ml] 26))
    obtain ⟨m0, m1, m2, m3, m4⟩ := cells5 Hm0.out
    go_wp2_with fail
    refine (awake8_any _).mono ?_
    rintro e w1 ⟨rfl, hb⟩
    have Hm1 := Lib.hid (Hm0.out.nxt hb)
    have HB1 := Lib.hid (below_nx HB0.out hb)
    clear hb
    clear m0 m1 m2 m3 m4
    obtain ⟨m0, m1, m2, m3, m4⟩ := cells5 Hm1.out
    go_wp2_with fail
    refine (HGr.out _).mono ?_
    rintro e w2 ⟨rfl, hb⟩
    have Hm2 := Lib.hid (Hm1.out.nxt hb)
    have HB2 := Lib.hid (below_nx HB1.out hb)
    clear hb
    clear m0 m1 m2 m3 m4
    obtain ⟨m0, m1, m2, m3, m4⟩ := cells5 Hm2.out
    go_wp2_with fail
    refine (awake8_any _).mono ?_
    rintro e w3 ⟨rfl, hb⟩
    have Hm3 := Lib.hid (Hm2.out.nxt hb)
    have HB3 := Lib.hid (below_nx HB2.out hb)
    clear hb
    clear m0 m1 m2 m3 m4
    obtain ⟨m0, m1, m2, m3, m4⟩ := cells5 Hm3.out
    go_wp2_with fail
    go_ret
    exact ⟨rfl, HB3.out⟩

set_option maxRecDepth 100000 in
set_option maxHeartbeats 4000000 in
theorem gerShifts_bad (Am : Option Addr) (nm cm : Nat) (lm : List Nat) (mo mr mk ml : Int)  (B : Option Addr) (rn rc : Nat) (zr : List Int) (D : Option Addr) (cn0 cc : Nat) (zc : List Int) (w : World) (hA : Row w Am (f64s lm)) (hW : Wds lm) (hl : lm.length = nm) (hn : nm ≤ 1000) (hr100 : rn ≤ 100) (hc100 : cn0 ≤ 100) (hG : greatB nm mr mk = false) (ho : I64 mo) (hr : I64 mr) (hk : I64 mk) (hi : I64 ml) (hgd : matB nm mo mr mk ml = false) :
    Calls Try.prog 5 #[mat Am nm cm mo mr mk ml, .slice B rn rc, .slice D cn0 cc] w fun e w' => e = .returned (.bool true) ∧ Below w.heap.size w w' := by
  have HGr := Lib.hid (fun W => great_any Am nm cm mo mr mk ml W)
  rw [hG] at HGr
  have HAp := Lib.hid (fun W (hb : Below w.heap.size w W) => show Calls Try.prog 15 #[mat Am nm cm mo mr mk ml] W fun e w' => ∃ g c', e = .returned (mat (some ⟨g, 0, none⟩) nm c' mo mr mk ml) ∧ Own w' g lm ∧ W.heap.size ≤ g ∧ Below W.heap.size W w' from by
    have := rapart_any Am cm lm mo mr mk ml W (hA.below hb) (by omega)
    rw [hl] at this
    exact this.mono fun e w' ⟨g, c', e1, e2, e3, _, _, e4⟩ => ⟨g, c', e1, e2, e3, e4⟩)
  have HGd := Lib.hid (fun W => rgood_any Am nm cm mo mr mk ml W (by omega) ho hr hk hi)
  rw [hgd] at HGd
  have HAm := Lib.hid hA
  have HAll := Lib.hid (fun W (A B : Option Addr) (c d : Nat) (h1 : Row W A (f64s lm)) (h2 : Row W B (f64s lm)) => show Calls Try.prog 23 #[.slice A nm c, .slice B nm d] W fun e w' => e = .returned (.bool true) ∧ Below W.heap.size W w' from by
    have := rall_any A B c d lm lm W hW hW h1 h2 (by omega) (Alike.refl lm)
    rw [hl] at this; exact this)
  have d1 : decide ((100 : Int) < (rn : Int)) = false := by simp; omega
  have d2 : decide ((100 : Int) < (cn0 : Int)) = false := by simp; omega
  have HSh := Lib.hid (fun (g c : Nat) W => grshift_bad (some ⟨g, 0, none⟩) nm c mo mr mk ml B rn rc D cn0 cc W (by omega) ho hr hk hi hgd)
  have HTu := Lib.hid (fun W => grturn_bad Am nm cm mo mr mk ml W (by omega) ho hr hk hi hgd)
  clear hA hW hl hn hr100 hc100 hG ho hr hk hi hgd
  unfold mat at *
  go_enter Try.func5, Try.ntmps5
  have Hm0 := Lib.hid (Blk.new w 26 #[.slice Am nm cm, .int .i64 mo, .int .i64 mr, .int .i64 mk, .int .i64 ml])
  have HB0 := Lib.hid ((Below.refl w.heap.size w).alloc (Nat.le_refl _) (.cells #[.slice Am nm cm, .int .i64 mo, .int .i64 mr, .int .i64 mk, .int .i64 ml] 26))
  obtain ⟨m0, m1, m2, m3, m4⟩ := cells5 Hm0.out
  go_wp2_with fail
  refine (awake8_any _).mono ?_
  rintro e w1 ⟨rfl, hb⟩
  have Hm1 := Lib.hid (Hm0.out.nxt hb)
  have HB1 := Lib.hid (below_nx HB0.out hb)
  clear hb
  clear m0 m1 m2 m3 m4
  obtain ⟨m0, m1, m2, m3, m4⟩ := cells5 Hm1.out
  go_wp2_with fail
  refine (HGr.out _).mono ?_
  rintro e w2 ⟨rfl, hb⟩
  have Hm2 := Lib.hid (Hm1.out.nxt hb)
  have HB2 := Lib.hid (below_nx HB1.out hb)
  clear hb
  clear m0 m1 m2 m3 m4
  obtain ⟨m0, m1, m2, m3, m4⟩ := cells5 Hm2.out
  go_wp2_with fail
  refine (HAp.out _ HB2.out).mono ?_
  rintro e w3 ⟨gn, cn, rfl, hOn, hgn, hb⟩
  have HGn := Lib.hid (Nat.le_trans HB2.out.size hgn)
  have Hm3 := Lib.hid (Hm2.out.nxt hb)
  have HB3 := Lib.hid (below_nx HB2.out hb)
  clear hb
  clear m0 m1 m2 m3 m4
  obtain ⟨m0, m1, m2, m3, m4⟩ := cells5 Hm3.out
  have Hn3 := Lib.hid hOn
  clear hOn hgn
  have Hm4 := Lib.hid (Hm3.out.alloc (.cells #[.slice (some ⟨gn, 0, none⟩) nm cn, .int .i64 mo, .int .i64 mr, .int .i64 mk, .int .i64 ml] 26))
  have Hn4 := Lib.hid (Hn3.out.nxt (below_one (o := (.cells #[.slice (some ⟨gn, 0, none⟩) nm cn, .int .i64 mo, .int .i64 mr, .int .i64 mk, .int .i64 ml] 26))))
  have Hk4 := Lib.hid (Blk.new w3 26 #[.slice (some ⟨gn, 0, none⟩) nm cn, .int .i64 mo, .int .i64 mr, .int .i64 mk, .int .i64 ml])
  have HB4 := Lib.hid (below_al HB3.out (o := (.cells #[.slice (some ⟨gn, 0, none⟩) nm cn, .int .i64 mo, .int .i64 mr, .int .i64 mk, .int .i64 ml] 26)))
  clear m0 m1 m2 m3 m4
  obtain ⟨m0, m1, m2, m3, m4⟩ := cells5 Hm4.out
  obtain ⟨k0, k1, k2, k3, k4⟩ := cells5 Hk4.out
  go_wp2_with fail
  clear m0 m1 m2 m3 m4 k0 k1 k2 k3 k4
  generalize hq9 : w3.alloc (.cells #[.slice (some ⟨gn, 0, none⟩) nm cn, .int .i64 mo, .int .i64 mr, .int .i64 mk, .int .i64 ml] 26) = w4 at *
  clear hq9
  generalize w3.heap.size = pn at *
  obtain ⟨m0, m1, m2, m3, m4⟩ := cells5 Hm4.out
  obtain ⟨k0, k1, k2, k3, k4⟩ := cells5 Hk4.out
  refine (HSh.out _ _ _).mono ?_
  rintro e w5 ⟨rfl, hb⟩
  have Hm5 := Lib.hid (Hm4.out.nxt hb)
  have Hk5 := Lib.hid (Hk4.out.nxt hb)
  have Hn5 := Lib.hid (Hn4.out.nxt hb)
  have HB5 := Lib.hid (below_nx HB4.out hb)
  clear hb
  clear m0 m1 m2 m3 m4 k0 k1 k2 k3 k4
  obtain ⟨m0, m1, m2, m3, m4⟩ := cells5 Hm5.out
  obtain ⟨k0, k1, k2, k3, k4⟩ := cells5 Hk5.out
  go_wp2_with fail
  refine (HTu.out _).mono ?_
  rintro e w6 ⟨rfl, hb⟩
  have Hm6 := Lib.hid (Hm5.out.nxt hb)
  have Hk6 := Lib.hid (Hk5.out.nxt hb)
  have Hn6 := Lib.hid (Hn5.out.nxt hb)
  have HB6 := Lib.hid (below_nx HB5.out hb)
  clear hb
  clear m0 m1 m2 m3 m4 k0 k1 k2 k3 k4
  obtain ⟨m0, m1, m2, m3, m4⟩ := cells5 Hm6.out
  obtain ⟨k0, k1, k2, k3, k4⟩ := cells5 Hk6.out
  have Hm7 := Lib.hid (Hm6.out.alloc (.cells #[.slice none 0 0, .int .i64 0, .int .i64 0, .int .i64 0, .int .i64 0] 26))
  have Hk7 := Lib.hid (Hk6.out.alloc (.cells #[.slice none 0 0, .int .i64 0, .int .i64 0, .int .i64 0, .int .i64 0] 26))
  have Hn7 := Lib.hid (Hn6.out.nxt (below_one (o := (.cells #[.slice none 0 0, .int .i64 0, .int .i64 0, .int .i64 0, .int .i64 0] 26))))
  have Ht7 := Lib.hid (Blk.new w6 26 #[.slice none 0 0, .int .i64 0, .int .i64 0, .int .i64 0, .int .i64 0])
  have HB7 := Lib.hid (below_al HB6.out (o := (.cells #[.slice none 0 0, .int .i64 0, .int .i64 0, .int .i64 0, .int .i64 0] 26)))
  clear m0 m1 m2 m3 m4 k0 k1 k2 k3 k4
  obtain ⟨m0, m1, m2, m3, m4⟩ := cells5 Hm7.out
  obtain ⟨k0, k1, k2, k3, k4⟩ := cells5 Hk7.out
  obtain ⟨t0, t1, t2, t3, t4⟩ := cells5 Ht7.out
  go_wp2_with fail
  clear m0 m1 m2 m3 m4 k0 k1 k2 k3 k4 t0 t1 t2 t3 t4
  generalize hq9 : w6.alloc (.cells #[.slice none 0 0, .int .i64 0, .int .i64 0, .int .i64 0, .int .i64 0] 26) = w7 at *
  clear hq9
  generalize w6.heap.size = pt at *
  obtain ⟨m0, m1, m2, m3, m4⟩ := cells5 Hm7.out
  obtain ⟨k0, k1, k2, k3, k4⟩ := cells5 Hk7.out
  obtain ⟨t0, t1, t2, t3, t4⟩ := cells5 Ht7.out
  refine (HGd.out _).mono ?_
  rintro e w8 ⟨rfl, hb⟩
  have Hm8 := Lib.hid (Hm7.out.nxt hb)
  have Hk8 := Lib.hid (Hk7.out.nxt hb)
  have Ht8 := Lib.hid (Ht7.out.nxt hb)
  have Hn8 := Lib.hid (Hn7.out.nxt hb)
  have HB8 := Lib.hid (below_nx HB7.out hb)
  clear hb
  clear m0 m1 m2 m3 m4 k0 k1 k2 k3 k4 t0 t1 t2 t3 t4
  obtain ⟨m0, m1, m2, m3, m4⟩ := cells5 Hm8.out
  obtain ⟨k0, k1, k2, k3, k4⟩ := cells5 Hk8.out
  obtain ⟨t0, t1, t2, t3, t4⟩ := cells5 Ht8.out
  go_wp2_with fail
  refine (HAll.out _ _ _ _ _ Hn8.out.row (HAm.out.below HB8.out)).mono ?_
  rintro e w9 ⟨rfl, hb⟩
  have Hm9 := Lib.hid (Hm8.out.nxt hb)
  have Hk9 := Lib.hid (Hk8.out.nxt hb)
  have Ht9 := Lib.hid (Ht8.out.nxt hb)
  have Hn9 := Lib.hid (Hn8.out.nxt hb)
  have HB9 := Lib.hid (below_nx HB8.out hb)
  clear hb
  clear m0 m1 m2 m3 m4 k0 k1 k2 k3 k4 t0 t1 t2 t3 t4
  obtain ⟨m0, m1, m2, m3, m4⟩ := cells5 Hm9.out
  obtain ⟨k0, k1, k2, k3, k4⟩ := cells5 Hk9.out
  obtain ⟨t0, t1, t2, t3, t4⟩ := cells5 Ht9.out
  go_wp2_with fail
  refine (awake8_any _).mono ?_
  rintro e wa ⟨rfl, hb⟩
  have Hm10 := Lib.hid (Hm9.out.nxt hb)
  have Hk10 := Lib.hid (Hk9.out.nxt hb)
  have Ht10 := Lib.hid (Ht9.out.nxt hb)
  have Hn10 := Lib.hid (Hn9.out.nxt hb)
  have HB10 := Lib.hid (below_nx HB9.out hb)
  clear hb
  clear m0 m1 m2 m3 m4 k0 k1 k2 k3 k4 t0 t1 t2 t3 t4
  obtain ⟨m0, m1, m2, m3, m4⟩ := cells5 Hm10.out
  obtain ⟨k0, k1, k2, k3, k4⟩ := cells5 Hk10.out
  obtain ⟨t0, t1, t2, t3, t4⟩ := cells5 Ht10.out
  go_wp2_with fail
  go_ret
  exact ⟨rfl, HB10.out⟩
end Go.Proofs.Ytmjaakngiilmdaa
