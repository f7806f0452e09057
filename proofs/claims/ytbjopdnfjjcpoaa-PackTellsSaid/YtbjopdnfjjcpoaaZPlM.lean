/-
PackTells. Conditions: none.
-/
import Derived.Test.YtbjopdnfjjcpoaaZPlL
import Derived.Test.YtbjopdnfjjcpoaaZPlF
import Derived.Test.YtbjopdnfjjcpoaaVak
import Derived.Test.YtbjopdnfjjcpoaaZVwG
set_option linter.unusedVariables false
set_option linter.unusedSimpArgs false
set_option linter.unnecessarySimpa false
namespace Go.Proofs.Ytbjopdnfjjcpoaa
open Go.RowKit
attribute [local go_sem ↓] Go.wp_at_zero Go.wp_at_succ

set_option maxHeartbeats 2000000 in
theorem packTells_great (Am : Option Addr) (nm cm : Nat) (mo mr mk ml st : Int) (w : World) (h : greatB nm mr mk = true) : Calls Try.prog 3 #[mat Am nm cm mo mr mk ml, .int .i64 st] w fun e w' => e = .returned (.bool true) ∧ Below w.heap.size w w' := by
  have HGr := Lib.hid (fun W => great_any Am nm cm mo mr mk ml W)
  rw [h] at HGr
  clear h
  unfold mat at *
  go_enter Try.func3, Try.ntmps3
  have Hm0 := Lib.hid (Blk.new w 24 #[.slice Am nm cm, .int .i64 mo, .int .i64 mr, .int .i64 mk, .int .i64 ml])
  have HB0 := Lib.hid ((Below.refl w.heap.size w).alloc (Nat.le_refl _) (.cells #[.slice Am nm cm, .int .i64 mo, .int .i64 mr, .int .i64 mk, .int .i64 ml] 24))
  obtain ⟨m0, m1, m2, m3, m4⟩ := cells5 Hm0.out
  go_wp2_with fail
  refine (awake12_any _).mono ?_
  rintro e w1 ⟨rfl, hb⟩
  have Hm1 := Lib.hid (Hm0.out.nxt hb)
  have HB1 := Lib.hid (below_nx HB0.out hb)
  clear hb
  clear m0 m1 m2 m3 m4
  obtain ⟨m0, m1, m2, m3, m4⟩ := cells5 Hm1.out
  go_wp2_with fail
  refine (HGr.out _).mono ?_
  rintro e w2 ⟨rfl, hb⟩
  have Hm2 := Lib.hid (Hm1.out.nxt hb)
  have HB2 := Lib.hid (below_nx HB1.out hb)
  clear hb
  clear m0 m1 m2 m3 m4
  obtain ⟨m0, m1, m2, m3, m4⟩ := cells5 Hm2.out
  go_wp2_with fail
  refine (awake12_any _).mono ?_
  rintro e w3 ⟨rfl, hb⟩
  have Hm3 := Lib.hid (Hm2.out.nxt hb)
  have HB3 := Lib.hid (below_nx HB2.out hb)
  clear hb
  clear m0 m1 m2 m3 m4
  obtain ⟨m0, m1, m2, m3, m4⟩ := cells5 Hm3.out
  go_wp2_with fail
  go_ret
  exact ⟨rfl, HB3.out⟩

set_option maxRecDepth 100000 in
set_option maxHeartbeats 2000000 in
theorem packTells_bad (Am : Option Addr) (nm cm : Nat) (mo mr mk ml st : Int) (w : World) (hn : nm ≤ 1000) (hmo : I64 mo) (hmr : I64 mr) (hmk : I64 mk) (hml : I64 ml) (hG : greatB nm mr mk = false) (h : matB nm mo mr mk ml = false ∨ st < 1 ∨ 64 < st) : Calls Try.prog 3 #[mat Am nm cm mo mr mk ml, .int .i64 st] w fun e w' => e = .returned (.bool true) ∧ Below w.heap.size w w' := by
  have HGr := Lib.hid (fun W => great_any Am nm cm mo mr mk ml W)
  rw [hG] at HGr
  have HPk := Lib.hid (fun W => pack_bad Am nm cm mo mr mk ml st W (by omega) hmo hmr hmk hml h)
  have HGm := Lib.hid (fun W => rgood_any Am nm cm mo mr mk ml W (by omega) hmo hmr hmk hml)
  clear hn hmo hmr hmk hml hG
  by_cases hg : matB nm mo mr mk ml = false
  · rw [hg] at HGm
    clear h hg
    unfold mat at *
    go_enter Try.func3, Try.ntmps3
    have Hm0 := Lib.hid (Blk.new w 24 #[.slice Am nm cm, .int .i64 mo, .int .i64 mr, .int .i64 mk, .int .i64 ml])
    have HB0 := Lib.hid ((Below.refl w.heap.size w).alloc (Nat.le_refl _) (.cells #[.slice Am nm cm, .int .i64 mo, .int .i64 mr, .int .i64 mk, .int .i64 ml] 24))
    obtain ⟨m0, m1, m2, m3, m4⟩ := cells5 Hm0.out
    go_wp2_with fail
    refine (awake12_any _).mono ?_
    rintro e w1 ⟨rfl, hb⟩
    have Hm1 := Lib.hid (Hm0.out.nxt hb)
    have HB1 := Lib.hid (below_nx HB0.out hb)
    clear hb
    clear m0 m1 m2 m3 m4
    obtain ⟨m0, m1, m2, m3, m4⟩ := cells5 Hm1.out
    go_wp2_with fail
    refine (HGr.out _).mono ?_
    rintro e w2 ⟨rfl, hb⟩
    have Hm2 := Lib.hid (Hm1.out.nxt hb)
    have HB2 := Lib.hid (below_nx HB1.out hb)
    clear hb
    clear m0 m1 m2 m3 m4
    obtain ⟨m0, m1, m2, m3, m4⟩ := cells5 Hm2.out
    go_wp2_with fail
    refine (HPk.out _).mono ?_
    rintro e w3 ⟨rfl, hb⟩
    have Hm3 := Lib.hid (Hm2.out.nxt hb)
    have HB3 := Lib.hid (below_nx HB2.out hb)
    clear hb
    clear m0 m1 m2 m3 m4
    obtain ⟨m0, m1, m2, m3, m4⟩ := cells5 Hm3.out
    have hb9 : Below w3.heap.size w3 (w3.alloc (.cells #[.int .i64 0, .int .i64 0, .slice none 0 0] 28)) := below_one
    have Hm4 := Lib.hid (Hm3.out.nxt hb9)
    have HB4 := Lib.hid (below_nx HB3.out hb9)
    have Hp4 := Lib.hid (Blk.new w3 28 #[.int .i64 0, .int .i64 0, .slice none 0 0])
    clear hb9
    clear m0 m1 m2 m3 m4
    obtain ⟨m0, m1, m2, m3, m4⟩ := cells5 Hm4.out
    obtain ⟨p0, p1, p2⟩ := cells3v Hp4.out
    go_wp2_with fail
    refine (HGm.out _).mono ?_
    rintro e w4 ⟨rfl, hb⟩
    have Hm5 := Lib.hid (Hm4.out.nxt hb)
    have Hp5 := Lib.hid (Hp4.out.nxt hb)
    have HB5 := Lib.hid (below_nx HB4.out hb)
    clear hb
    clear m0 m1 m2 m3 m4 p0 p1 p2
    obtain ⟨m0, m1, m2, m3, m4⟩ := cells5 Hm5.out
    obtain ⟨p0, p1, p2⟩ := cells3v Hp5.out
    go_wp2_with fail
    refine (awake12_any _).mono ?_
    rintro e w5 ⟨rfl, hb⟩
    have Hm6 := Lib.hid (Hm5.out.nxt hb)
    have Hp6 := Lib.hid (Hp5.out.nxt hb)
    have HB6 := Lib.hid (below_nx HB5.out hb)
    clear hb
    clear m0 m1 m2 m3 m4 p0 p1 p2
    obtain ⟨m0, m1, m2, m3, m4⟩ := cells5 Hm6.out
    obtain ⟨p0, p1, p2⟩ := cells3v Hp6.out
    go_wp2_with fail
    go_ret
    exact ⟨rfl, HB6.out⟩
  · have hg2 : matB nm mo mr mk ml = true := by simpa using hg
    have h2 := h.resolve_left hg
    rw [hg2] at HGm
    clear h hg hg2
    by_cases h1 : st < 1
    · clear h2
      unfold mat at *
      go_enter Try.func3, Try.ntmps3
      have Hm0 := Lib.hid (Blk.new w 24 #[.slice Am nm cm, .int .i64 mo, .int .i64 mr, .int .i64 mk, .int .i64 ml])
      have HB0 := Lib.hid ((Below.refl w.heap.size w).alloc (Nat.le_refl _) (.cells #[.slice Am nm cm, .int .i64 mo, .int .i64 mr, .int .i64 mk, .int .i64 ml] 24))
      obtain ⟨m0, m1, m2, m3, m4⟩ := cells5 Hm0.out
      go_wp2_with fail
      refine (awake12_any _).mono ?_
      rintro e w1 ⟨rfl, hb⟩
      have Hm1 := Lib.hid (Hm0.out.nxt hb)
      have HB1 := Lib.hid (below_nx HB0.out hb)
      clear hb
      clear m0 m1 m2 m3 m4
      obtain ⟨m0, m1, m2, m3, m4⟩ := cells5 Hm1.out
      go_wp2_with fail
      refine (HGr.out _).mono ?_
      rintro e w2 ⟨rfl, hb⟩
      have Hm2 := Lib.hid (Hm1.out.nxt hb)
      have HB2 := Lib.hid (below_nx HB1.out hb)
      clear hb
      clear m0 m1 m2 m3 m4
      obtain ⟨m0, m1, m2, m3, m4⟩ := cells5 Hm2.out
      go_wp2_with fail
      refine (HPk.out _).mono ?_
      rintro e w3 ⟨rfl, hb⟩
      have Hm3 := Lib.hid (Hm2.out.nxt hb)
      have HB3 := Lib.hid (below_nx HB2.out hb)
      clear hb
      clear m0 m1 m2 m3 m4
      obtain ⟨m0, m1, m2, m3, m4⟩ := cells5 Hm3.out
      have hb9 : Below w3.heap.size w3 (w3.alloc (.cells #[.int .i64 0, .int .i64 0, .slice none 0 0] 28)) := below_one
      have Hm4 := Lib.hid (Hm3.out.nxt hb9)
      have HB4 := Lib.hid (below_nx HB3.out hb9)
      have Hp4 := Lib.hid (Blk.new w3 28 #[.int .i64 0, .int .i64 0, .slice none 0 0])
      clear hb9
      clear m0 m1 m2 m3 m4
      obtain ⟨m0, m1, m2, m3, m4⟩ := cells5 Hm4.out
      obtain ⟨p0, p1, p2⟩ := cells3v Hp4.out
      go_wp2_with fail
      refine (HGm.out _).mono ?_
      rintro e w4 ⟨rfl, hb⟩
      have Hm5 := Lib.hid (Hm4.out.nxt hb)
      have Hp5 := Lib.hid (Hp4.out.nxt hb)
      have HB5 := Lib.hid (below_nx HB4.out hb)
      clear hb
      clear m0 m1 m2 m3 m4 p0 p1 p2
      obtain ⟨m0, m1, m2, m3, m4⟩ := cells5 Hm5.out
      obtain ⟨p0, p1, p2⟩ := cells3v Hp5.out
      go_wp2_with fail
      refine (awake12_any _).mono ?_
      rintro e w5 ⟨rfl, hb⟩
      have Hm6 := Lib.hid (Hm5.out.nxt hb)
      have Hp6 := Lib.hid (Hp5.out.nxt hb)
      have HB6 := Lib.hid (below_nx HB5.out hb)
      clear hb
      clear m0 m1 m2 m3 m4 p0 p1 p2
      obtain ⟨m0, m1, m2, m3, m4⟩ := cells5 Hm6.out
      obtain ⟨p0, p1, p2⟩ := cells3v Hp6.out
      go_wp2_with fail
      go_ret
      exact ⟨rfl, HB6.out⟩
    · have h3 : 64 < st := h2.resolve_left h1
      clear h2
      unfold mat at *
      go_enter Try.func3, Try.ntmps3
      have Hm0 := Lib.hid (Blk.new w 24 #[.slice Am nm cm, .int .i64 mo, .int .i64 mr, .int .i64 mk, .int .i64 ml])
      have HB0 := Lib.hid ((Below.refl w.heap.size w).alloc (Nat.le_refl _) (.cells #[.slice Am nm cm, .int .i64 mo, .int .i64 mr, .int .i64 mk, .int .i64 ml] 24))
      obtain ⟨m0, m1, m2, m3, m4⟩ := cells5 Hm0.out
      go_wp2_with fail
      refine (awake12_any _).mono ?_
      rintro e w1 ⟨rfl, hb⟩
      have Hm1 := Lib.hid (Hm0.out.nxt hb)
      have HB1 := Lib.hid (below_nx HB0.out hb)
      clear hb
      clear m0 m1 m2 m3 m4
      obtain ⟨m0, m1, m2, m3, m4⟩ := cells5 Hm1.out
      go_wp2_with fail
      refine (HGr.out _).mono ?_
      rintro e w2 ⟨rfl, hb⟩
      have Hm2 := Lib.hid (Hm1.out.nxt hb)
      have HB2 := Lib.hid (below_nx HB1.out hb)
      clear hb
      clear m0 m1 m2 m3 m4
      obtain ⟨m0, m1, m2, m3, m4⟩ := cells5 Hm2.out
      go_wp2_with fail
      refine (HPk.out _).mono ?_
      rintro e w3 ⟨rfl, hb⟩
      have Hm3 := Lib.hid (Hm2.out.nxt hb)
      have HB3 := Lib.hid (below_nx HB2.out hb)
      clear hb
      clear m0 m1 m2 m3 m4
      obtain ⟨m0, m1, m2, m3, m4⟩ := cells5 Hm3.out
      have hb9 : Below w3.heap.size w3 (w3.alloc (.cells #[.int .i64 0, .int .i64 0, .slice none 0 0] 28)) := below_one
      have Hm4 := Lib.hid (Hm3.out.nxt hb9)
      have HB4 := Lib.hid (below_nx HB3.out hb9)
      have Hp4 := Lib.hid (Blk.new w3 28 #[.int .i64 0, .int .i64 0, .slice none 0 0])
      clear hb9
      clear m0 m1 m2 m3 m4
      obtain ⟨m0, m1, m2, m3, m4⟩ := cells5 Hm4.out
      obtain ⟨p0, p1, p2⟩ := cells3v Hp4.out
      go_wp2_with fail
      refine (HGm.out _).mono ?_
      rintro e w4 ⟨rfl, hb⟩
      have Hm5 := Lib.hid (Hm4.out.nxt hb)
      have Hp5 := Lib.hid (Hp4.out.nxt hb)
      have HB5 := Lib.hid (below_nx HB4.out hb)
      clear hb
      clear m0 m1 m2 m3 m4 p0 p1 p2
      obtain ⟨m0, m1, m2, m3, m4⟩ := cells5 Hm5.out
      obtain ⟨p0, p1, p2⟩ := cells3v Hp5.out
      go_wp2_with fail
      refine (awake12_any _).mono ?_
      rintro e w5 ⟨rfl, hb⟩
      have Hm6 := Lib.hid (Hm5.out.nxt hb)
      have Hp6 := Lib.hid (Hp5.out.nxt hb)
      have HB6 := Lib.hid (below_nx HB5.out hb)
      clear hb
      clear m0 m1 m2 m3 m4 p0 p1 p2
      obtain ⟨m0, m1, m2, m3, m4⟩ := cells5 Hm6.out
      obtain ⟨p0, p1, p2⟩ := cells3v Hp6.out
      go_wp2_with fail
      go_ret
      exact ⟨rfl, HB6.out⟩

/-- What is put into a matrix that was packed is what it was. -/
theorem back_same {l D l1 l' : List Nat} {o R C L F2 N : Nat} (hD : D = pkl l o R C L F2 N) (hF : C ≤ F2) (hN : R * F2 ≤ N) (h1 : l1.length = l.length ∧ ∀ x, (∀ a, a < R → ∀ b, b < C → x ≠ o + a + b * L) → l1.getD x 0 = l.getD x 0)
    (h : Img l1 o R C L (fun a b => D.getD (a * F2 + b) 0) l') : l' = l := by
  subst hD
  refine ext_getD (h.1.trans h1.1) fun x _ => ?_
  by_cases hx : ∃ a, a < R ∧ ∃ b, b < C ∧ x = o + a + b * L
  · obtain ⟨a, ha, b, hb, rfl⟩ := hx
    rw [h.2.1 a ha b hb]
    show (pkl l o R C L F2 N).getD (a * F2 + b) 0 = _
    rw [pkl_get l o R C L (by omega) (by have := tab_lt (r := R) (k := F2) ha (show b < F2 by omega); omega)]
    unfold atN
    rw [if_pos ⟨ha, hb⟩]
  · have hx' : ∀ a, a < R → ∀ b, b < C → x ≠ o + a + b * L := fun a ha b hb e => hx ⟨a, ha, b, hb, e⟩
    rw [h.2.2 x hx', h1.2 x hx']
theorem getD_wdp {l : List Nat} (h : Wds l) (k : Nat) : l.getD k 0 < 18446744073709551616 := by
  rcases Nat.lt_or_ge k l.length with h1 | h1
  · rw [getD_of_lt h1]; exact h.at_ k h1
  · rw [getD_of_le h1]; omega
theorem pkl_wds {l : List Nat} (h : Wds l) (o R C L F2 N : Nat) : Wds (pkl l o R C L F2 N) := by
  intro b hb
  obtain ⟨q, _, rfl⟩ := List.mem_map.1 hb
  unfold atN
  split
  · exact getD_wdp h _
  · omega
theorem below_only {z g : Nat} {w W W' : World} (h : Below z w W) (hO : Only g W W') (hg : z ≤ g) (hz : z ≤ W.heap.size) : Below z w W' := h.grown hO hz (fun k hk => by simp at hk; omega)

set_option maxRecDepth 100000 in
set_option maxHeartbeats 4000000 in
theorem packTells_ok0 (Am : Option Addr) (nm cm : Nat) (lm : List Nat) (o R C L s0 : Nat) (w : World) (hAm : Row w Am (f64s lm)) (hWm : Wds lm) (hlm : lm.length = nm) (hn : nm ≤ 1000) (hoI : I64 o) (hLI : I64 L) (hR : R ≤ 20) (hC : C ≤ 20) (hL1 : 1 ≤ L) (hRL : R ≤ L) (hmr : R = 0 ∨ C = 0 ∨ o + (C - 1) * L + (R - 1) < nm) (hs1 : 1 ≤ s0) (hs2 : s0 ≤ 64) (hv : R = 0) :
    Calls Try.prog 3 #[mat Am nm cm o R C L, .int .i64 (s0 : Int)] w fun e w' => e = .returned (.bool true) ∧ Below w.heap.size w w' := by
  have hv0 : ¬ (0 : Int) < (R : Int) := by omega
  clear hv
  have hG : greatB nm (R : Int) (C : Int) = false := by unfold greatB; simp; omega
  have HGr := Lib.hid (fun W => great_any Am nm cm o R C L W)
  rw [hG] at HGr
  have hob : o < 9223372036854775808 := by unfold I64 at hoI; omega
  have HGm := Lib.hid (fun W => rgood_any Am nm cm o R C L W (by omega) hoI (by unfold I64; omega) (by unfold I64; omega) hLI)
  rw [mat_right hL1 hRL hmr] at HGm
  have HPk := Lib.hid (fun W (hb : Below w.heap.size w W) => pack_ok Am nm cm lm o R C L s0 W (hAm.below hb) hlm (by omega) hLI (by omega) (by omega) hob hL1 hRL hmr hs1 hs2)
  obtain ⟨NT, hNT⟩ : ∃ NT, R * C = NT := ⟨_, rfl⟩
  have hNTb : NT ≤ 400 := by
    have h1 : R * C ≤ 20 * 20 := Nat.mul_le_mul hR hC
    omega
  have HOf := Lib.hid (fun W (hb : Below w.heap.size w W) => show Calls Try.prog 11 #[mat Am nm cm o R C L] W fun e w' => ∃ g T, e = .returned (tbl R C g NT NT) ∧ Tab lm o R C L NT T ∧ Row w' (some ⟨g, 0, none⟩) (f64s T) ∧ Below W.heap.size W w' from by
    refine (rof_any Am nm cm lm o R C L NT W (hAm.below hb) hlm (by omega) hNT (by omega) (by omega) (by omega) hmr).mono ?_
    rintro e w' ⟨g', T, e1, e2, e3, _, e4⟩
    exact ⟨g', T, e1, e2, e3, e4⟩)
  have HRp := Lib.hid (fun g T W (hT : Tab lm o R C L NT T) (h : Row W (some ⟨g, 0, none⟩) (f64s T)) => rpack_any R C g NT NT s0 T lm o L W h (by rw [hT.1, hNT]) hNT hT (by omega) (by omega) hs1 hs2)
  have hb1 := fillN_le (n := R) hs1
  have hb2 := fillN_le (n := C) hs1
  obtain ⟨F1, hF1⟩ : ∃ F1, fillN R s0 = F1 := ⟨_, rfl⟩
  obtain ⟨F2, hF2⟩ : ∃ F2, fillN C s0 = F2 := ⟨_, rfl⟩
  obtain ⟨N, hN⟩ : ∃ N, F1 * F2 = N := ⟨_, rfl⟩
  rw [hF1] at hb1
  rw [hF2] at hb2
  rw [hF1, hF2, hN] at HPk HRp
  have hNb : N ≤ 16384 := by
    rw [← hN]
    exact (Nat.mul_le_mul (show F1 ≤ 128 by omega) (show F2 ≤ 128 by omega))
  obtain ⟨D, hD⟩ : ∃ D, pkl lm o R C L F2 N = D := ⟨_, rfl⟩
  have hDl : D.length = N := by rw [← hD, pkl_length]
  have hDw : Wds D := by rw [← hD]; exact pkl_wds hWm _ _ _ _ _ _
  rw [hD] at HPk HRp
  have HAl := Lib.hid (fun A B c d W (h1 : Row W A (f64s D)) (h2 : Row W B (f64s D)) => by
    have h := rall_any A B c d D D W hDw hDw h1 h2 (by omega) (Alike.refl _)
    rw [hDl] at h
    exact h)
  have HAp := Lib.hid (fun W (hb : Below w.heap.size w W) => by
    have h := rapart_any Am cm lm (o : Int) (R : Int) (C : Int) (L : Int) W (hAm.below hb) (by omega)
    rw [hlm] at h
    exact h)
  have HUn := Lib.hid (fun gD cD gm c9 l1 W (h1 : Row W (some ⟨gD, 0, none⟩) (f64s D)) (h2 : Own W gm l1) (h3 : l1.length = lm.length) => punpack_ok F1 F2 gD N cD D gm c9 nm l1 o R C L W h1 hDl (by omega) hN.symm (by omega) h2 (by rw [h3, hlm]) (by omega) hLI (by omega) (by omega) hob hL1 hRL hmr hb1.1 hb2.1)
  have HBk := Lib.hid (fun l1 l9 h1 h => back_same (l := lm) (D := D) (l1 := l1) (l' := l9) (o := o) (R := R) (C := C) (L := L) (F2 := F2) (N := N) hD.symm hb2.1 (by rw [← hN]; exact Nat.mul_le_mul_right _ hb1.1) h1 h)
  have HAm := Lib.hid (fun gm c9 W (h1 : Row W (some ⟨gm, 0, none⟩) (f64s lm)) (hb : Below w.heap.size w W) => by
    have h := rall_any (some ⟨gm, 0, none⟩) Am c9 cm lm lm W hWm hWm h1 (hAm.below hb) (by omega) (Alike.refl _)
    rw [hlm] at h
    exact h)
  have hx2 : ¬ (s0 : Int) < 1 := by omega
  have hx3 : ¬ (64 : Int) < (s0 : Int) := by omega
  clear hAm hWm hlm hn hoI hLI hR hC hL1 hRL hmr hs1 hs2 hG hob hNT hNTb hb1 hb2 hF1 hF2 hN hNb hD hDl hDw
  unfold mat tbl pnl at *
  go_enter Try.func3, Try.ntmps3
  have Hm0 := Lib.hid (Blk.new w 24 #[.slice Am nm cm, .int .i64 (o : Int), .int .i64 (R : Int), .int .i64 (C : Int), .int .i64 (L : Int)])
  have HB0 := Lib.hid ((Below.refl w.heap.size w).alloc (Nat.le_refl _) (.cells #[.slice Am nm cm, .int .i64 (o : Int), .int .i64 (R : Int), .int .i64 (C : Int), .int .i64 (L : Int)] 24))
  obtain ⟨m0, m1, m2, m3, m4⟩ := cells5 Hm0.out
  go_wp2_with fail
  refine (awake12_any _).mono ?_
  rintro e w1 ⟨rfl, hb⟩
  have Hm1 := Lib.hid (Hm0.out.nxt hb)
  have HB1 := Lib.hid (below_nx HB0.out hb)
  clear hb
  clear m0 m1 m2 m3 m4
  obtain ⟨m0, m1, m2, m3, m4⟩ := cells5 Hm1.out
  go_wp2_with fail
  refine (HGr.out _).mono ?_
  rintro e w2 ⟨rfl, hb⟩
  have Hm2 := Lib.hid (Hm1.out.nxt hb)
  have HB2 := Lib.hid (below_nx HB1.out hb)
  clear hb
  clear m0 m1 m2 m3 m4
  obtain ⟨m0, m1, m2, m3, m4⟩ := cells5 Hm2.out
  go_wp2_with fail
  refine (HPk.out _ HB2.out).mono ?_
  rintro e w3 ⟨gD, cD, rfl, hoD, hgD, hlD, hb⟩
  have HoD := Lib.hid hoD
  have HgD := Lib.hid (And.intro hgD hlD)
  clear hoD hgD hlD
  have Hm3 := Lib.hid (Hm2.out.nxt hb)
  have HB3 := Lib.hid (below_nx HB2.out hb)
  clear hb
  clear m0 m1 m2 m3 m4
  obtain ⟨m0, m1, m2, m3, m4⟩ := cells5 Hm3.out
  have Hd3 := HoD
  have hb9 : Below w3.heap.size w3 (w3.alloc (.cells #[.int .i64 (F1 : Int), .int .i64 (F2 : Int), .slice (some ⟨gD, 0, none⟩) N cD] 28)) := below_one
  have Hm4 := Lib.hid (Hm3.out.nxt hb9)
  have Hd4 := Lib.hid (Hd3.out.nxt hb9)
  have HB4 := Lib.hid (below_nx HB3.out hb9)
  have Hp4 := Lib.hid (Blk.new w3 28 #[.int .i64 (F1 : Int), .int .i64 (F2 : Int), .slice (some ⟨gD, 0, none⟩) N cD])
  clear hb9
  clear m0 m1 m2 m3 m4
  obtain ⟨m0, m1, m2, m3, m4⟩ := cells5 Hm4.out
  obtain ⟨p0, p1, p2⟩ := cells3v Hp4.out
  go_wp2_with fail
  refine (HGm.out _).mono ?_
  rintro e w4 ⟨rfl, hb⟩
  have Hm5 := Lib.hid (Hm4.out.nxt hb)
  have Hp5 := Lib.hid (Hp4.out.nxt hb)
  have Hd5 := Lib.hid (Hd4.out.nxt hb)
  have HB5 := Lib.hid (below_nx HB4.out hb)
  clear hb
  clear m0 m1 m2 m3 m4 p0 p1 p2
  obtain ⟨m0, m1, m2, m3, m4⟩ := cells5 Hm5.out
  obtain ⟨p0, p1, p2⟩ := cells3v Hp5.out
  go_wp2_with fail
  refine (HOf.out _ HB5.out).mono ?_
  rintro e w5 ⟨gT, TT, rfl, hT, hRw, hb⟩
  have HTt := Lib.hid hT
  have HTr := Lib.hid hRw
  clear hT hRw
  have Hm6 := Lib.hid (Hm5.out.nxt hb)
  have Hp6 := Lib.hid (Hp5.out.nxt hb)
  have Hd6 := Lib.hid (Hd5.out.nxt hb)
  have HB6 := Lib.hid (below_nx HB5.out hb)
  clear hb
  clear m0 m1 m2 m3 m4 p0 p1 p2
  obtain ⟨m0, m1, m2, m3, m4⟩ := cells5 Hm6.out
  obtain ⟨p0, p1, p2⟩ := cells3v Hp6.out
  go_wp2_with fail
  refine (HRp.out gT TT _ HTt.out HTr.out).mono ?_
  rintro e w6 ⟨g2, rfl, hr2, hb⟩
  have HD2 := Lib.hid hr2
  clear hr2 HTt HTr
  have Hm7 := Lib.hid (Hm6.out.nxt hb)
  have Hp7 := Lib.hid (Hp6.out.nxt hb)
  have Hd7 := Lib.hid (Hd6.out.nxt hb)
  have HB7 := Lib.hid (below_nx HB6.out hb)
  clear hb
  clear m0 m1 m2 m3 m4 p0 p1 p2
  obtain ⟨m0, m1, m2, m3, m4⟩ := cells5 Hm7.out
  obtain ⟨p0, p1, p2⟩ := cells3v Hp7.out
  go_wp2_with fail
  refine (HAl.out (some ⟨gD, 0, none⟩) (some ⟨g2, 0, none⟩) cD N _ Hd7.out.row HD2.out).mono ?_
  rintro e w7 ⟨rfl, hb⟩
  have Hm8 := Lib.hid (Hm7.out.nxt hb)
  have Hp8 := Lib.hid (Hp7.out.nxt hb)
  have Hd8 := Lib.hid (Hd7.out.nxt hb)
  have HB8 := Lib.hid (below_nx HB7.out hb)
  clear hb
  clear m0 m1 m2 m3 m4 p0 p1 p2
  obtain ⟨m0, m1, m2, m3, m4⟩ := cells5 Hm8.out
  obtain ⟨p0, p1, p2⟩ := cells3v Hp8.out
  go_wp2_with fail
  refine (HAp.out _ HB8.out).mono ?_
  rintro e w8 ⟨gm, cm9, rfl, hom, hgm, _, _, hb⟩
  have HgW := Lib.hid (show w.heap.size ≤ gm from Nat.le_trans HB8.out.size hgm)
  have Hgm := Lib.hid (show gD ≠ gm from by have := Hd8.out.lt; omega)
  have Hbx := Lib.hid (show w.heap.size ≠ gm ∧ w3.heap.size ≠ gm from by have h1 := Hm8.out.lt; have h2 := Hp8.out.lt; omega)
  have Hom := Lib.hid hom
  clear hom hgm
  have Hm9 := Lib.hid (Hm8.out.nxt hb)
  have Hp9 := Lib.hid (Hp8.out.nxt hb)
  have Hd9 := Lib.hid (Hd8.out.nxt hb)
  have HB9 := Lib.hid (below_nx HB8.out hb)
  clear hb
  clear m0 m1 m2 m3 m4 p0 p1 p2
  obtain ⟨m0, m1, m2, m3, m4⟩ := cells5 Hm9.out
  obtain ⟨p0, p1, p2⟩ := cells3v Hp9.out
  have Hn9 := Hom
  have hb9 : Below w8.heap.size w8 (w8.alloc (.cells #[.slice (some ⟨gm, 0, none⟩) nm cm9, .int .i64 (o : Int), .int .i64 (R : Int), .int .i64 (C : Int), .int .i64 (L : Int)] 24)) := below_one
  have Hm10 := Lib.hid (Hm9.out.nxt hb9)
  have Hp10 := Lib.hid (Hp9.out.nxt hb9)
  have Hd10 := Lib.hid (Hd9.out.nxt hb9)
  have Hn10 := Lib.hid (Hn9.out.nxt hb9)
  have HB10 := Lib.hid (below_nx HB9.out hb9)
  have Hq10 := Lib.hid (Blk.new w8 24 #[.slice (some ⟨gm, 0, none⟩) nm cm9, .int .i64 (o : Int), .int .i64 (R : Int), .int .i64 (C : Int), .int .i64 (L : Int)])
  clear hb9
  clear m0 m1 m2 m3 m4 p0 p1 p2
  obtain ⟨m0, m1, m2, m3, m4⟩ := cells5 Hm10.out
  obtain ⟨p0, p1, p2⟩ := cells3v Hp10.out
  obtain ⟨q0, q1, q2, q3, q4⟩ := cells5 Hq10.out
  have Hq8 := Lib.hid (show w8.heap.size ≠ gm from by have := Hom.out.lt; omega)
  go_wp2_with fail
  refine (HUn.out gD cD gm cm9 lm _ Hd10.out.row Hn10.out rfl).mono ?_
  rintro e w10 ⟨rfl, l9, ho9, hi9, hon⟩
  have he9 := HBk.out lm l9 ⟨rfl, fun _ _ => rfl⟩ hi9
  subst he9
  have Hn11 := Lib.hid ho9
  have Hm11 := Lib.hid (hon.blk Hbx.out.1 Hm10.out)
  have Hp11 := Lib.hid (hon.blk Hbx.out.2 Hp10.out)
  have Hq11 := Lib.hid (hon.blk Hq8.out Hq10.out)
  have HB11 := Lib.hid (below_only HB10.out hon HgW.out HB10.out.size)
  clear ho9 hi9 hon
  clear m0 m1 m2 m3 m4 p0 p1 p2 q0 q1 q2 q3 q4
  obtain ⟨m0, m1, m2, m3, m4⟩ := cells5 Hm11.out
  obtain ⟨p0, p1, p2⟩ := cells3v Hp11.out
  obtain ⟨q0, q1, q2, q3, q4⟩ := cells5 Hq11.out
  go_wp2_with fail
  refine (HAm.out gm cm9 _ Hn11.out.row HB11.out).mono ?_
  rintro e w11 ⟨rfl, hb⟩
  have Hm12 := Lib.hid (Hm11.out.nxt hb)
  have Hp12 := Lib.hid (Hp11.out.nxt hb)
  have Hq12 := Lib.hid (Hq11.out.nxt hb)
  have Hn12 := Lib.hid (Hn11.out.nxt hb)
  have HB12 := Lib.hid (below_nx HB11.out hb)
  clear hb
  clear m0 m1 m2 m3 m4 p0 p1 p2 q0 q1 q2 q3 q4
  obtain ⟨m0, m1, m2, m3, m4⟩ := cells5 Hm12.out
  obtain ⟨p0, p1, p2⟩ := cells3v Hp12.out
  obtain ⟨q0, q1, q2, q3, q4⟩ := cells5 Hq12.out
  go_wp2_with fail
  refine (awake12_any _).mono ?_
  rintro e w12 ⟨rfl, hb⟩
  have Hm13 := Lib.hid (Hm12.out.nxt hb)
  have Hp13 := Lib.hid (Hp12.out.nxt hb)
  have Hq13 := Lib.hid (Hq12.out.nxt hb)
  have Hn13 := Lib.hid (Hn12.out.nxt hb)
  have HB13 := Lib.hid (below_nx HB12.out hb)
  clear hb
  clear m0 m1 m2 m3 m4 p0 p1 p2 q0 q1 q2 q3 q4
  obtain ⟨m0, m1, m2, m3, m4⟩ := cells5 Hm13.out
  obtain ⟨p0, p1, p2⟩ := cells3v Hp13.out
  obtain ⟨q0, q1, q2, q3, q4⟩ := cells5 Hq13.out
  go_wp2_with fail
  go_ret
  exact ⟨rfl, HB13.out⟩

set_option maxRecDepth 100000 in
set_option maxHeartbeats 4000000 in
theorem packTells_ok1 (Am : Option Addr) (nm cm : Nat) (lm : List Nat) (o R C L s0 : Nat) (w : World) (hAm : Row w Am (f64s lm)) (hWm : Wds lm) (hlm : lm.length = nm) (hn : nm ≤ 1000) (hoI : I64 o) (hLI : I64 L) (hR : R ≤ 20) (hC : C ≤ 20) (hL1 : 1 ≤ L) (hRL : R ≤ L) (hmr : R = 0 ∨ C = 0 ∨ o + (C - 1) * L + (R - 1) < nm) (hs1 : 1 ≤ s0) (hs2 : s0 ≤ 64) (hv : C = 0) (hR0 : 0 < R) :
    Calls Try.prog 3 #[mat Am nm cm o R C L, .int .i64 (s0 : Int)] w fun e w' => e = .returned (.bool true) ∧ Below w.heap.size w w' := by
  have hv0 : (0 : Int) < (R : Int) := by omega
  have hv1 : ¬ (0 : Int) < (C : Int) := by omega
  clear hv hR0
  have hG : greatB nm (R : Int) (C : Int) = false := by unfold greatB; simp; omega
  have HGr := Lib.hid (fun W => great_any Am nm cm o R C L W)
  rw [hG] at HGr
  have hob : o < 9223372036854775808 := by unfold I64 at hoI; omega
  have HGm := Lib.hid (fun W => rgood_any Am nm cm o R C L W (by omega) hoI (by unfold I64; omega) (by unfold I64; omega) hLI)
  rw [mat_right hL1 hRL hmr] at HGm
  have HPk := Lib.hid (fun W (hb : Below w.heap.size w W) => pack_ok Am nm cm lm o R C L s0 W (hAm.below hb) hlm (by omega) hLI (by omega) (by omega) hob hL1 hRL hmr hs1 hs2)
  obtain ⟨NT, hNT⟩ : ∃ NT, R * C = NT := ⟨_, rfl⟩
  have hNTb : NT ≤ 400 := by
    have h1 : R * C ≤ 20 * 20 := Nat.mul_le_mul hR hC
    omega
  have HOf := Lib.hid (fun W (hb : Below w.heap.size w W) => show Calls Try.prog 11 #[mat Am nm cm o R C L] W fun e w' => ∃ g T, e = .returned (tbl R C g NT NT) ∧ Tab lm o R C L NT T ∧ Row w' (some ⟨g, 0, none⟩) (f64s T) ∧ Below W.heap.size W w' from by
    refine (rof_any Am nm cm lm o R C L NT W (hAm.below hb) hlm (by omega) hNT (by omega) (by omega) (by omega) hmr).mono ?_
    rintro e w' ⟨g', T, e1, e2, e3, _, e4⟩
    exact ⟨g', T, e1, e2, e3, e4⟩)
  have HRp := Lib.hid (fun g T W (hT : Tab lm o R C L NT T) (h : Row W (some ⟨g, 0, none⟩) (f64s T)) => rpack_any R C g NT NT s0 T lm o L W h (by rw [hT.1, hNT]) hNT hT (by omega) (by omega) hs1 hs2)
  have hb1 := fillN_le (n := R) hs1
  have hb2 := fillN_le (n := C) hs1
  obtain ⟨F1, hF1⟩ : ∃ F1, fillN R s0 = F1 := ⟨_, rfl⟩
  obtain ⟨F2, hF2⟩ : ∃ F2, fillN C s0 = F2 := ⟨_, rfl⟩
  obtain ⟨N, hN⟩ : ∃ N, F1 * F2 = N := ⟨_, rfl⟩
  rw [hF1] at hb1
  rw [hF2] at hb2
  rw [hF1, hF2, hN] at HPk HRp
  have hNb : N ≤ 16384 := by
    rw [← hN]
    exact (Nat.mul_le_mul (show F1 ≤ 128 by omega) (show F2 ≤ 128 by omega))
  obtain ⟨D, hD⟩ : ∃ D, pkl lm o R C L F2 N = D := ⟨_, rfl⟩
  have hDl : D.length = N := by rw [← hD, pkl_length]
  have hDw : Wds D := by rw [← hD]; exact pkl_wds hWm _ _ _ _ _ _
  rw [hD] at HPk HRp
  have HAl := Lib.hid (fun A B c d W (h1 : Row W A (f64s D)) (h2 : Row W B (f64s D)) => by
    have h := rall_any A B c d D D W hDw hDw h1 h2 (by omega) (Alike.refl _)
    rw [hDl] at h
    exact h)
  have HAp := Lib.hid (fun W (hb : Below w.heap.size w W) => by
    have h := rapart_any Am cm lm (o : Int) (R : Int) (C : Int) (L : Int) W (hAm.below hb) (by omega)
    rw [hlm] at h
    exact h)
  have HUn := Lib.hid (fun gD cD gm c9 l1 W (h1 : Row W (some ⟨gD, 0, none⟩) (f64s D)) (h2 : Own W gm l1) (h3 : l1.length = lm.length) => punpack_ok F1 F2 gD N cD D gm c9 nm l1 o R C L W h1 hDl (by omega) hN.symm (by omega) h2 (by rw [h3, hlm]) (by omega) hLI (by omega) (by omega) hob hL1 hRL hmr hb1.1 hb2.1)
  have HBk := Lib.hid (fun l1 l9 h1 h => back_same (l := lm) (D := D) (l1 := l1) (l' := l9) (o := o) (R := R) (C := C) (L := L) (F2 := F2) (N := N) hD.symm hb2.1 (by rw [← hN]; exact Nat.mul_le_mul_right _ hb1.1) h1 h)
  have HAm := Lib.hid (fun gm c9 W (h1 : Row W (some ⟨gm, 0, none⟩) (f64s lm)) (hb : Below w.heap.size w W) => by
    have h := rall_any (some ⟨gm, 0, none⟩) Am c9 cm lm lm W hWm hWm h1 (hAm.below hb) (by omega) (Alike.refl _)
    rw [hlm] at h
    exact h)
  have hx2 : ¬ (s0 : Int) < 1 := by omega
  have hx3 : ¬ (64 : Int) < (s0 : Int) := by omega
  clear hAm hWm hlm hn hoI hLI hR hC hL1 hRL hmr hs1 hs2 hG hob hNT hNTb hb1 hb2 hF1 hF2 hN hNb hD hDl hDw
  unfold mat tbl pnl at *
  go_enter Try.func3, Try.ntmps3
  have Hm0 := Lib.hid (Blk.new w 24 #[.slice Am nm cm, .int .i64 (o : Int), .int .i64 (R : Int), .int .i64 (C : Int), .int .i64 (L : Int)])
  have HB0 := Lib.hid ((Below.refl w.heap.size w).alloc (Nat.le_refl _) (.cells #[.slice Am nm cm, .int .i64 (o : Int), .int .i64 (R : Int), .int .i64 (C : Int), .int .i64 (L : Int)] 24))
  obtain ⟨m0, m1, m2, m3, m4⟩ := cells5 Hm0.out
  go_wp2_with fail
  refine (awake12_any _).mono ?_
  rintro e w1 ⟨rfl, hb⟩
  have Hm1 := Lib.hid (Hm0.out.nxt hb)
  have HB1 := Lib.hid (below_nx HB0.out hb)
  clear hb
  clear m0 m1 m2 m3 m4
  obtain ⟨m0, m1, m2, m3, m4⟩ := cells5 Hm1.out
  go_wp2_with fail
  refine (HGr.out _).mono ?_
  rintro e w2 ⟨rfl, hb⟩
  have Hm2 := Lib.hid (Hm1.out.nxt hb)
  have HB2 := Lib.hid (below_nx HB1.out hb)
  clear hb
  clear m0 m1 m2 m3 m4
  obtain ⟨m0, m1, m2, m3, m4⟩ := cells5 Hm2.out
  go_wp2_with fail
  refine (HPk.out _ HB2.out).mono ?_
  rintro e w3 ⟨gD, cD, rfl, hoD, hgD, hlD, hb⟩
  have HoD := Lib.hid hoD
  have HgD := Lib.hid (And.intro hgD hlD)
  clear hoD hgD hlD
  have Hm3 := Lib.hid (Hm2.out.nxt hb)
  have HB3 := Lib.hid (below_nx HB2.out hb)
  clear hb
  clear m0 m1 m2 m3 m4
  obtain ⟨m0, m1, m2, m3, m4⟩ := cells5 Hm3.out
  have Hd3 := HoD
  have hb9 : Below w3.heap.size w3 (w3.alloc (.cells #[.int .i64 (F1 : Int), .int .i64 (F2 : Int), .slice (some ⟨gD, 0, none⟩) N cD] 28)) := below_one
  have Hm4 := Lib.hid (Hm3.out.nxt hb9)
  have Hd4 := Lib.hid (Hd3.out.nxt hb9)
  have HB4 := Lib.hid (below_nx HB3.out hb9)
  have Hp4 := Lib.hid (Blk.new w3 28 #[.int .i64 (F1 : Int), .int .i64 (F2 : Int), .slice (some ⟨gD, 0, none⟩) N cD])
  clear hb9
  clear m0 m1 m2 m3 m4
  obtain ⟨m0, m1, m2, m3, m4⟩ := cells5 Hm4.out
  obtain ⟨p0, p1, p2⟩ := cells3v Hp4.out
  go_wp2_with fail
  refine (HGm.out _).mono ?_
  rintro e w4 ⟨rfl, hb⟩
  have Hm5 := Lib.hid (Hm4.out.nxt hb)
  have Hp5 := Lib.hid (Hp4.out.nxt hb)
  have Hd5 := Lib.hid (Hd4.out.nxt hb)
  have HB5 := Lib.hid (below_nx HB4.out hb)
  clear hb
  clear m0 m1 m2 m3 m4 p0 p1 p2
  obtain ⟨m0, m1, m2, m3, m4⟩ := cells5 Hm5.out
  obtain ⟨p0, p1, p2⟩ := cells3v Hp5.out
  go_wp2_with fail
  refine (HOf.out _ HB5.out).mono ?_
  rintro e w5 ⟨gT, TT, rfl, hT, hRw, hb⟩
  have HTt := Lib.hid hT
  have HTr := Lib.hid hRw
  clear hT hRw
  have Hm6 := Lib.hid (Hm5.out.nxt hb)
  have Hp6 := Lib.hid (Hp5.out.nxt hb)
  have Hd6 := Lib.hid (Hd5.out.nxt hb)
  have HB6 := Lib.hid (below_nx HB5.out hb)
  clear hb
  clear m0 m1 m2 m3 m4 p0 p1 p2
  obtain ⟨m0, m1, m2, m3, m4⟩ := cells5 Hm6.out
  obtain ⟨p0, p1, p2⟩ := cells3v Hp6.out
  go_wp2_with fail
  refine (HRp.out gT TT _ HTt.out HTr.out).mono ?_
  rintro e w6 ⟨g2, rfl, hr2, hb⟩
  have HD2 := Lib.hid hr2
  clear hr2 HTt HTr
  have Hm7 := Lib.hid (Hm6.out.nxt hb)
  have Hp7 := Lib.hid (Hp6.out.nxt hb)
  have Hd7 := Lib.hid (Hd6.out.nxt hb)
  have HB7 := Lib.hid (below_nx HB6.out hb)
  clear hb
  clear m0 m1 m2 m3 m4 p0 p1 p2
  obtain ⟨m0, m1, m2, m3, m4⟩ := cells5 Hm7.out
  obtain ⟨p0, p1, p2⟩ := cells3v Hp7.out
  go_wp2_with fail
  refine (HAl.out (some ⟨gD, 0, none⟩) (some ⟨g2, 0, none⟩) cD N _ Hd7.out.row HD2.out).mono ?_
  rintro e w7 ⟨rfl, hb⟩
  have Hm8 := Lib.hid (Hm7.out.nxt hb)
  have Hp8 := Lib.hid (Hp7.out.nxt hb)
  have Hd8 := Lib.hid (Hd7.out.nxt hb)
  have HB8 := Lib.hid (below_nx HB7.out hb)
  clear hb
  clear m0 m1 m2 m3 m4 p0 p1 p2
  obtain ⟨m0, m1, m2, m3, m4⟩ := cells5 Hm8.out
  obtain ⟨p0, p1, p2⟩ := cells3v Hp8.out
  go_wp2_with fail
  refine (HAp.out _ HB8.out).mono ?_
  rintro e w8 ⟨gm, cm9, rfl, hom, hgm, _, _, hb⟩
  have HgW := Lib.hid (show w.heap.size ≤ gm from Nat.le_trans HB8.out.size hgm)
  have Hgm := Lib.hid (show gD ≠ gm from by have := Hd8.out.lt; omega)
  have Hbx := Lib.hid (show w.heap.size ≠ gm ∧ w3.heap.size ≠ gm from by have h1 := Hm8.out.lt; have h2 := Hp8.out.lt; omega)
  have Hom := Lib.hid hom
  clear hom hgm
  have Hm9 := Lib.hid (Hm8.out.nxt hb)
  have Hp9 := Lib.hid (Hp8.out.nxt hb)
  have Hd9 := Lib.hid (Hd8.out.nxt hb)
  have HB9 := Lib.hid (below_nx HB8.out hb)
  clear hb
  clear m0 m1 m2 m3 m4 p0 p1 p2
  obtain ⟨m0, m1, m2, m3, m4⟩ := cells5 Hm9.out
  obtain ⟨p0, p1, p2⟩ := cells3v Hp9.out
  have Hn9 := Hom
  have hb9 : Below w8.heap.size w8 (w8.alloc (.cells #[.slice (some ⟨gm, 0, none⟩) nm cm9, .int .i64 (o : Int), .int .i64 (R : Int), .int .i64 (C : Int), .int .i64 (L : Int)] 24)) := below_one
  have Hm10 := Lib.hid (Hm9.out.nxt hb9)
  have Hp10 := Lib.hid (Hp9.out.nxt hb9)
  have Hd10 := Lib.hid (Hd9.out.nxt hb9)
  have Hn10 := Lib.hid (Hn9.out.nxt hb9)
  have HB10 := Lib.hid (below_nx HB9.out hb9)
  have Hq10 := Lib.hid (Blk.new w8 24 #[.slice (some ⟨gm, 0, none⟩) nm cm9, .int .i64 (o : Int), .int .i64 (R : Int), .int .i64 (C : Int), .int .i64 (L : Int)])
  clear hb9
  clear m0 m1 m2 m3 m4 p0 p1 p2
  obtain ⟨m0, m1, m2, m3, m4⟩ := cells5 Hm10.out
  obtain ⟨p0, p1, p2⟩ := cells3v Hp10.out
  obtain ⟨q0, q1, q2, q3, q4⟩ := cells5 Hq10.out
  have Hq8 := Lib.hid (show w8.heap.size ≠ gm from by have := Hom.out.lt; omega)
  go_wp2_with fail
  refine (HUn.out gD cD gm cm9 lm _ Hd10.out.row Hn10.out rfl).mono ?_
  rintro e w10 ⟨rfl, l9, ho9, hi9, hon⟩
  have he9 := HBk.out lm l9 ⟨rfl, fun _ _ => rfl⟩ hi9
  subst he9
  have Hn11 := Lib.hid ho9
  have Hm11 := Lib.hid (hon.blk Hbx.out.1 Hm10.out)
  have Hp11 := Lib.hid (hon.blk Hbx.out.2 Hp10.out)
  have Hq11 := Lib.hid (hon.blk Hq8.out Hq10.out)
  have HB11 := Lib.hid (below_only HB10.out hon HgW.out HB10.out.size)
  clear ho9 hi9 hon
  clear m0 m1 m2 m3 m4 p0 p1 p2 q0 q1 q2 q3 q4
  obtain ⟨m0, m1, m2, m3, m4⟩ := cells5 Hm11.out
  obtain ⟨p0, p1, p2⟩ := cells3v Hp11.out
  obtain ⟨q0, q1, q2, q3, q4⟩ := cells5 Hq11.out
  go_wp2_with fail
  refine (HAm.out gm cm9 _ Hn11.out.row HB11.out).mono ?_
  rintro e w11 ⟨rfl, hb⟩
  have Hm12 := Lib.hid (Hm11.out.nxt hb)
  have Hp12 := Lib.hid (Hp11.out.nxt hb)
  have Hq12 := Lib.hid (Hq11.out.nxt hb)
  have Hn12 := Lib.hid (Hn11.out.nxt hb)
  have HB12 := Lib.hid (below_nx HB11.out hb)
  clear hb
  clear m0 m1 m2 m3 m4 p0 p1 p2 q0 q1 q2 q3 q4
  obtain ⟨m0, m1, m2, m3, m4⟩ := cells5 Hm12.out
  obtain ⟨p0, p1, p2⟩ := cells3v Hp12.out
  obtain ⟨q0, q1, q2, q3, q4⟩ := cells5 Hq12.out
  go_wp2_with fail
  refine (awake12_any _).mono ?_
  rintro e w12 ⟨rfl, hb⟩
  have Hm13 := Lib.hid (Hm12.out.nxt hb)
  have Hp13 := Lib.hid (Hp12.out.nxt hb)
  have Hq13 := Lib.hid (Hq12.out.nxt hb)
  have Hn13 := Lib.hid (Hn12.out.nxt hb)
  have HB13 := Lib.hid (below_nx HB12.out hb)
  clear hb
  clear m0 m1 m2 m3 m4 p0 p1 p2 q0 q1 q2 q3 q4
  obtain ⟨m0, m1, m2, m3, m4⟩ := cells5 Hm13.out
  obtain ⟨p0, p1, p2⟩ := cells3v Hp13.out
  obtain ⟨q0, q1, q2, q3, q4⟩ := cells5 Hq13.out
  go_wp2_with fail
  go_ret
  exact ⟨rfl, HB13.out⟩

set_option maxRecDepth 100000 in
set_option maxHeartbeats 4000000 in
theorem packTells_ok2 (Am : Option Addr) (nm cm : Nat) (lm : List Nat) (o R C L s0 : Nat) (w : World) (hAm : Row w Am (f64s lm)) (hWm : Wds lm) (hlm : lm.length = nm) (hn : nm ≤ 1000) (hoI : I64 o) (hLI : I64 L) (hR : R ≤ 20) (hC : C ≤ 20) (hL1 : 1 ≤ L) (hRL : R ≤ L) (hmr : R = 0 ∨ C = 0 ∨ o + (C - 1) * L + (R - 1) < nm) (hs1 : 1 ≤ s0) (hs2 : s0 ≤ 64) (hR0 : 0 < R) (hC0 : 0 < C) :
    Calls Try.prog 3 #[mat Am nm cm o R C L, .int .i64 (s0 : Int)] w fun e w' => e = .returned (.bool true) ∧ Below w.heap.size w w' := by
  have hv0 : (0 : Int) < (R : Int) := by omega
  have hv1 : (0 : Int) < (C : Int) := by omega
  have HoL := Lib.hid (show o < lm.length from by have := gr_lt hmr hR0 hC0; omega)
  have hoi : (o : Int) < (nm : Int) := by have := HoL.out; omega
  have HL1 := Lib.hid (show (lm.set o 4635118810238550016).length = lm.length ∧ ∀ x, (∀ a, a < R → ∀ b, b < C → x ≠ o + a + b * L) → (lm.set o 4635118810238550016).getD x 0 = lm.getD x 0 from ⟨by simp, fun x hx => getD_set_ne _ (by have := hx 0 hR0 0 hC0; omega) _⟩)
  clear hR0 hC0
  have hG : greatB nm (R : Int) (C : Int) = false := by unfold greatB; simp; omega
  have HGr := Lib.hid (fun W => great_any Am nm cm o R C L W)
  rw [hG] at HGr
  have hob : o < 9223372036854775808 := by unfold I64 at hoI; omega
  have HGm := Lib.hid (fun W => rgood_any Am nm cm o R C L W (by omega) hoI (by unfold I64; omega) (by unfold I64; omega) hLI)
  rw [mat_right hL1 hRL hmr] at HGm
  have HPk := Lib.hid (fun W (hb : Below w.heap.size w W) => pack_ok Am nm cm lm o R C L s0 W (hAm.below hb) hlm (by omega) hLI (by omega) (by omega) hob hL1 hRL hmr hs1 hs2)
  obtain ⟨NT, hNT⟩ : ∃ NT, R * C = NT := ⟨_, rfl⟩
  have hNTb : NT ≤ 400 := by
    have h1 : R * C ≤ 20 * 20 := Nat.mul_le_mul hR hC
    omega
  have HOf := Lib.hid (fun W (hb : Below w.heap.size w W) => show Calls Try.prog 11 #[mat Am nm cm o R C L] W fun e w' => ∃ g T, e = .returned (tbl R C g NT NT) ∧ Tab lm o R C L NT T ∧ Row w' (some ⟨g, 0, none⟩) (f64s T) ∧ Below W.heap.size W w' from by
    refine (rof_any Am nm cm lm o R C L NT W (hAm.below hb) hlm (by omega) hNT (by omega) (by omega) (by omega) hmr).mono ?_
    rintro e w' ⟨g', T, e1, e2, e3, _, e4⟩
    exact ⟨g', T, e1, e2, e3, e4⟩)
  have HRp := Lib.hid (fun g T W (hT : Tab lm o R C L NT T) (h : Row W (some ⟨g, 0, none⟩) (f64s T)) => rpack_any R C g NT NT s0 T lm o L W h (by rw [hT.1, hNT]) hNT hT (by omega) (by omega) hs1 hs2)
  have hb1 := fillN_le (n := R) hs1
  have hb2 := fillN_le (n := C) hs1
  obtain ⟨F1, hF1⟩ : ∃ F1, fillN R s0 = F1 := ⟨_, rfl⟩
  obtain ⟨F2, hF2⟩ : ∃ F2, fillN C s0 = F2 := ⟨_, rfl⟩
  obtain ⟨N, hN⟩ : ∃ N, F1 * F2 = N := ⟨_, rfl⟩
  rw [hF1] at hb1
  rw [hF2] at hb2
  rw [hF1, hF2, hN] at HPk HRp
  have hNb : N ≤ 16384 := by
    rw [← hN]
    exact (Nat.mul_le_mul (show F1 ≤ 128 by omega) (show F2 ≤ 128 by omega))
  obtain ⟨D, hD⟩ : ∃ D, pkl lm o R C L F2 N = D := ⟨_, rfl⟩
  have hDl : D.length = N := by rw [← hD, pkl_length]
  have hDw : Wds D := by rw [← hD]; exact pkl_wds hWm _ _ _ _ _ _
  rw [hD] at HPk HRp
  have HAl := Lib.hid (fun A B c d W (h1 : Row W A (f64s D)) (h2 : Row W B (f64s D)) => by
    have h := rall_any A B c d D D W hDw hDw h1 h2 (by omega) (Alike.refl _)
    rw [hDl] at h
    exact h)
  have HAp := Lib.hid (fun W (hb : Below w.heap.size w W) => by
    have h := rapart_any Am cm lm (o : Int) (R : Int) (C : Int) (L : Int) W (hAm.below hb) (by omega)
    rw [hlm] at h
    exact h)
  have HUn := Lib.hid (fun gD cD gm c9 l1 W (h1 : Row W (some ⟨gD, 0, none⟩) (f64s D)) (h2 : Own W gm l1) (h3 : l1.length = lm.length) => punpack_ok F1 F2 gD N cD D gm c9 nm l1 o R C L W h1 hDl (by omega) hN.symm (by omega) h2 (by rw [h3, hlm]) (by omega) hLI (by omega) (by omega) hob hL1 hRL hmr hb1.1 hb2.1)
  have HBk := Lib.hid (fun l1 l9 h1 h => back_same (l := lm) (D := D) (l1 := l1) (l' := l9) (o := o) (R := R) (C := C) (L := L) (F2 := F2) (N := N) hD.symm hb2.1 (by rw [← hN]; exact Nat.mul_le_mul_right _ hb1.1) h1 h)
  have HAm := Lib.hid (fun gm c9 W (h1 : Row W (some ⟨gm, 0, none⟩) (f64s lm)) (hb : Below w.heap.size w W) => by
    have h := rall_any (some ⟨gm, 0, none⟩) Am c9 cm lm lm W hWm hWm h1 (hAm.below hb) (by omega) (Alike.refl _)
    rw [hlm] at h
    exact h)
  have hx2 : ¬ (s0 : Int) < 1 := by omega
  have hx3 : ¬ (64 : Int) < (s0 : Int) := by omega
  clear hAm hWm hlm hn hoI hLI hR hC hL1 hRL hmr hs1 hs2 hG hob hNT hNTb hb1 hb2 hF1 hF2 hN hNb hD hDl hDw
  unfold mat tbl pnl at *
  go_enter Try.func3, Try.ntmps3
  have Hm0 := Lib.hid (Blk.new w 24 #[.slice Am nm cm, .int .i64 (o : Int), .int .i64 (R : Int), .int .i64 (C : Int), .int .i64 (L : Int)])
  have HB0 := Lib.hid ((Below.refl w.heap.size w).alloc (Nat.le_refl _) (.cells #[.slice Am nm cm, .int .i64 (o : Int), .int .i64 (R : Int), .int .i64 (C : Int), .int .i64 (L : Int)] 24))
  obtain ⟨m0, m1, m2, m3, m4⟩ := cells5 Hm0.out
  go_wp2_with fail
  refine (awake12_any _).mono ?_
  rintro e w1 ⟨rfl, hb⟩
  have Hm1 := Lib.hid (Hm0.out.nxt hb)
  have HB1 := Lib.hid (below_nx HB0.out hb)
  clear hb
  clear m0 m1 m2 m3 m4
  obtain ⟨m0, m1, m2, m3, m4⟩ := cells5 Hm1.out
  go_wp2_with fail
  refine (HGr.out _).mono ?_
  rintro e w2 ⟨rfl, hb⟩
  have Hm2 := Lib.hid (Hm1.out.nxt hb)
  have HB2 := Lib.hid (below_nx HB1.out hb)
  clear hb
  clear m0 m1 m2 m3 m4
  obtain ⟨m0, m1, m2, m3, m4⟩ := cells5 Hm2.out
  go_wp2_with fail
  refine (HPk.out _ HB2.out).mono ?_
  rintro e w3 ⟨gD, cD, rfl, hoD, hgD, hlD, hb⟩
  have HoD := Lib.hid hoD
  have HgD := Lib.hid (And.intro hgD hlD)
  clear hoD hgD hlD
  have Hm3 := Lib.hid (Hm2.out.nxt hb)
  have HB3 := Lib.hid (below_nx HB2.out hb)
  clear hb
  clear m0 m1 m2 m3 m4
  obtain ⟨m0, m1, m2, m3, m4⟩ := cells5 Hm3.out
  have Hd3 := HoD
  have hb9 : Below w3.heap.size w3 (w3.alloc (.cells #[.int .i64 (F1 : Int), .int .i64 (F2 : Int), .slice (some ⟨gD, 0, none⟩) N cD] 28)) := below_one
  have Hm4 := Lib.hid (Hm3.out.nxt hb9)
  have Hd4 := Lib.hid (Hd3.out.nxt hb9)
  have HB4 := Lib.hid (below_nx HB3.out hb9)
  have Hp4 := Lib.hid (Blk.new w3 28 #[.int .i64 (F1 : Int), .int .i64 (F2 : Int), .slice (some ⟨gD, 0, none⟩) N cD])
  clear hb9
  clear m0 m1 m2 m3 m4
  obtain ⟨m0, m1, m2, m3, m4⟩ := cells5 Hm4.out
  obtain ⟨p0, p1, p2⟩ := cells3v Hp4.out
  go_wp2_with fail
  refine (HGm.out _).mono ?_
  rintro e w4 ⟨rfl, hb⟩
  have Hm5 := Lib.hid (Hm4.out.nxt hb)
  have Hp5 := Lib.hid (Hp4.out.nxt hb)
  have Hd5 := Lib.hid (Hd4.out.nxt hb)
  have HB5 := Lib.hid (below_nx HB4.out hb)
  clear hb
  clear m0 m1 m2 m3 m4 p0 p1 p2
  obtain ⟨m0, m1, m2, m3, m4⟩ := cells5 Hm5.out
  obtain ⟨p0, p1, p2⟩ := cells3v Hp5.out
  go_wp2_with fail
  refine (HOf.out _ HB5.out).mono ?_
  rintro e w5 ⟨gT, TT, rfl, hT, hRw, hb⟩
  have HTt := Lib.hid hT
  have HTr := Lib.hid hRw
  clear hT hRw
  have Hm6 := Lib.hid (Hm5.out.nxt hb)
  have Hp6 := Lib.hid (Hp5.out.nxt hb)
  have Hd6 := Lib.hid (Hd5.out.nxt hb)
  have HB6 := Lib.hid (below_nx HB5.out hb)
  clear hb
  clear m0 m1 m2 m3 m4 p0 p1 p2
  obtain ⟨m0, m1, m2, m3, m4⟩ := cells5 Hm6.out
  obtain ⟨p0, p1, p2⟩ := cells3v Hp6.out
  go_wp2_with fail
  refine (HRp.out gT TT _ HTt.out HTr.out).mono ?_
  rintro e w6 ⟨g2, rfl, hr2, hb⟩
  have HD2 := Lib.hid hr2
  clear hr2 HTt HTr
  have Hm7 := Lib.hid (Hm6.out.nxt hb)
  have Hp7 := Lib.hid (Hp6.out.nxt hb)
  have Hd7 := Lib.hid (Hd6.out.nxt hb)
  have HB7 := Lib.hid (below_nx HB6.out hb)
  clear hb
  clear m0 m1 m2 m3 m4 p0 p1 p2
  obtain ⟨m0, m1, m2, m3, m4⟩ := cells5 Hm7.out
  obtain ⟨p0, p1, p2⟩ := cells3v Hp7.out
  go_wp2_with fail
  refine (HAl.out (some ⟨gD, 0, none⟩) (some ⟨g2, 0, none⟩) cD N _ Hd7.out.row HD2.out).mono ?_
  rintro e w7 ⟨rfl, hb⟩
  have Hm8 := Lib.hid (Hm7.out.nxt hb)
  have Hp8 := Lib.hid (Hp7.out.nxt hb)
  have Hd8 := Lib.hid (Hd7.out.nxt hb)
  have HB8 := Lib.hid (below_nx HB7.out hb)
  clear hb
  clear m0 m1 m2 m3 m4 p0 p1 p2
  obtain ⟨m0, m1, m2, m3, m4⟩ := cells5 Hm8.out
  obtain ⟨p0, p1, p2⟩ := cells3v Hp8.out
  go_wp2_with fail
  refine (HAp.out _ HB8.out).mono ?_
  rintro e w8 ⟨gm, cm9, rfl, hom, hgm, _, _, hb⟩
  have HgW := Lib.hid (show w.heap.size ≤ gm from Nat.le_trans HB8.out.size hgm)
  have Hgm := Lib.hid (show gD ≠ gm from by have := Hd8.out.lt; omega)
  have Hbx := Lib.hid (show w.heap.size ≠ gm ∧ w3.heap.size ≠ gm from by have h1 := Hm8.out.lt; have h2 := Hp8.out.lt; omega)
  have Hom := Lib.hid hom
  clear hom hgm
  have Hm9 := Lib.hid (Hm8.out.nxt hb)
  have Hp9 := Lib.hid (Hp8.out.nxt hb)
  have Hd9 := Lib.hid (Hd8.out.nxt hb)
  have HB9 := Lib.hid (below_nx HB8.out hb)
  clear hb
  clear m0 m1 m2 m3 m4 p0 p1 p2
  obtain ⟨m0, m1, m2, m3, m4⟩ := cells5 Hm9.out
  obtain ⟨p0, p1, p2⟩ := cells3v Hp9.out
  have Hn9 := Hom
  have hb9 : Below w8.heap.size w8 (w8.alloc (.cells #[.slice (some ⟨gm, 0, none⟩) nm cm9, .int .i64 (o : Int), .int .i64 (R : Int), .int .i64 (C : Int), .int .i64 (L : Int)] 24)) := below_one
  have Hm10 := Lib.hid (Hm9.out.nxt hb9)
  have Hp10 := Lib.hid (Hp9.out.nxt hb9)
  have Hd10 := Lib.hid (Hd9.out.nxt hb9)
  have Hn10 := Lib.hid (Hn9.out.nxt hb9)
  have HB10 := Lib.hid (below_nx HB9.out hb9)
  have Hq10 := Lib.hid (Blk.new w8 24 #[.slice (some ⟨gm, 0, none⟩) nm cm9, .int .i64 (o : Int), .int .i64 (R : Int), .int .i64 (C : Int), .int .i64 (L : Int)])
  clear hb9
  clear m0 m1 m2 m3 m4 p0 p1 p2
  obtain ⟨m0, m1, m2, m3, m4⟩ := cells5 Hm10.out
  obtain ⟨p0, p1, p2⟩ := cells3v Hp10.out
  obtain ⟨q0, q1, q2, q3, q4⟩ := cells5 Hq10.out
  have Hq8 := Lib.hid (show w8.heap.size ≠ gm from by have := Hom.out.lt; omega)
  have hce := Hn10.out.get o HoL.out
  have hfr := Hn10.out.frozen o
  generalize lm[o]'HoL.out = y9 at hce
  have Hn11 := Lib.hid (Hn10.out.set_ o 4635118810238550016 HoL.out)
  have Hd11 := Lib.hid (Hd10.out.other (p := ⟨gm, o, none⟩) Hgm.out (.float .f64 4635118810238550016))
  have Hm11 := Lib.hid (Hm10.out.other (p := ⟨gm, o, none⟩) Hbx.out.1 (.float .f64 4635118810238550016))
  have Hp11 := Lib.hid (Hp10.out.other (p := ⟨gm, o, none⟩) Hbx.out.2 (.float .f64 4635118810238550016))
  have Hq11 := Lib.hid (Hq10.out.other (p := ⟨gm, o, none⟩) Hq8.out (.float .f64 4635118810238550016))
  have HB11 := Lib.hid (HB10.out.setCell (p := ⟨gm, o, none⟩) HgW.out (.float .f64 4635118810238550016))
  go_upto_region 14 with fail
  generalize ((w8.alloc (.cells #[.slice (some ⟨gm, 0, none⟩) nm cm9, .int .i64 (o : Int), .int .i64 (R : Int), .int .i64 (C : Int), .int .i64 (L : Int)] 24)).setCell ⟨gm, o, none⟩ (.float .f64 4635118810238550016)) = w9 at *
  clear hce hfr
  clear m0 m1 m2 m3 m4 p0 p1 p2 q0 q1 q2 q3 q4
  obtain ⟨m0, m1, m2, m3, m4⟩ := cells5 Hm11.out
  obtain ⟨p0, p1, p2⟩ := cells3v Hp11.out
  obtain ⟨q0, q1, q2, q3, q4⟩ := cells5 Hq11.out
  go_wp2_with fail
  refine (HUn.out gD cD gm cm9 (lm.set o 4635118810238550016) _ Hd11.out.row Hn11.out HL1.out.1).mono ?_
  rintro e w10 ⟨rfl, l9, ho9, hi9, hon⟩
  have he9 := HBk.out (lm.set o 4635118810238550016) l9 HL1.out hi9
  subst he9
  have Hn12 := Lib.hid ho9
  have Hm12 := Lib.hid (hon.blk Hbx.out.1 Hm11.out)
  have Hp12 := Lib.hid (hon.blk Hbx.out.2 Hp11.out)
  have Hq12 := Lib.hid (hon.blk Hq8.out Hq11.out)
  have HB12 := Lib.hid (below_only HB11.out hon HgW.out HB11.out.size)
  clear ho9 hi9 hon
  clear m0 m1 m2 m3 m4 p0 p1 p2 q0 q1 q2 q3 q4
  obtain ⟨m0, m1, m2, m3, m4⟩ := cells5 Hm12.out
  obtain ⟨p0, p1, p2⟩ := cells3v Hp12.out
  obtain ⟨q0, q1, q2, q3, q4⟩ := cells5 Hq12.out
  go_wp2_with fail
  refine (HAm.out gm cm9 _ Hn12.out.row HB12.out).mono ?_
  rintro e w11 ⟨rfl, hb⟩
  have Hm13 := Lib.hid (Hm12.out.nxt hb)
  have Hp13 := Lib.hid (Hp12.out.nxt hb)
  have Hq13 := Lib.hid (Hq12.out.nxt hb)
  have Hn13 := Lib.hid (Hn12.out.nxt hb)
  have HB13 := Lib.hid (below_nx HB12.out hb)
  clear hb
  clear m0 m1 m2 m3 m4 p0 p1 p2 q0 q1 q2 q3 q4
  obtain ⟨m0, m1, m2, m3, m4⟩ := cells5 Hm13.out
  obtain ⟨p0, p1, p2⟩ := cells3v Hp13.out
  obtain ⟨q0, q1, q2, q3, q4⟩ := cells5 Hq13.out
  go_wp2_with fail
  refine (awake12_any _).mono ?_
  rintro e w12 ⟨rfl, hb⟩
  have Hm14 := Lib.hid (Hm13.out.nxt hb)
  have Hp14 := Lib.hid (Hp13.out.nxt hb)
  have Hq14 := Lib.hid (Hq13.out.nxt hb)
  have Hn14 := Lib.hid (Hn13.out.nxt hb)
  have HB14 := Lib.hid (below_nx HB13.out hb)
  clear hb
  clear m0 m1 m2 m3 m4 p0 p1 p2 q0 q1 q2 q3 q4
  obtain ⟨m0, m1, m2, m3, m4⟩ := cells5 Hm14.out
  obtain ⟨p0, p1, p2⟩ := cells3v Hp14.out
  obtain ⟨q0, q1, q2, q3, q4⟩ := cells5 Hq14.out
  go_wp2_with fail
  go_ret
  exact ⟨rfl, HB14.out⟩
theorem packTells_walk (Am : Option Addr) (cm : Nat) (lm : List Nat) (mo mr mk ml st : Int) (w : World) (hAm : Row w Am (f64s lm)) (hWm : Wds lm) (hmo : I64 mo) (hmr : I64 mr) (hmk : I64 mk) (hml : I64 ml) :
    Calls Try.prog 3 #[mat Am lm.length cm mo mr mk ml, .int .i64 st] w fun e w' => e = .returned (.bool true) ∧ Below w.heap.size w w' := by
  cases hG : greatB lm.length mr mk
  · have hn : lm.length ≤ 1000 ∧ mr ≤ 20 ∧ mk ≤ 20 := by have h := hG; unfold greatB at h; simp at h; omega
    by_cases h : matB lm.length mo mr mk ml = false ∨ st < 1 ∨ 64 < st
    · exact packTells_bad Am _ cm mo mr mk ml st w hn.1 hmo hmr hmk hml hG h
    · have h1 : matB lm.length mo mr mk ml = true := by
        cases h9 : matB lm.length mo mr mk ml
        · exact absurd (.inl h9) h
        · rfl
      obtain ⟨s0, rfl⟩ : ∃ s0 : Nat, st = s0 := ⟨st.toNat, by omega⟩
      obtain ⟨o, R, C, L, rfl, rfl, rfl, rfl, hL1, hRL, hmr2⟩ := mat_nat h1
      rcases Nat.eq_zero_or_pos R with e | e
      · exact packTells_ok0 Am _ cm lm o R C L s0 w hAm hWm rfl hn.1 hmo hml (by omega) (by omega) hL1 hRL hmr2 (by omega) (by omega) e
      · rcases Nat.eq_zero_or_pos C with e2 | e2
        · exact packTells_ok1 Am _ cm lm o R C L s0 w hAm hWm rfl hn.1 hmo hml (by omega) (by omega) hL1 hRL hmr2 (by omega) (by omega) e2 e
        · exact packTells_ok2 Am _ cm lm o R C L s0 w hAm hWm rfl hn.1 hmo hml (by omega) (by omega) hL1 hRL hmr2 (by omega) (by omega) e e2
  · exact packTells_great Am _ cm mo mr mk ml st w hG
end Go.Proofs.Ytbjopdnfjjcpoaa
