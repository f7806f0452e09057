/-
MoveVectors, walked. Conditions: as each says.
-/
import Derived.Test.YtiapminfldbgbaaMvS
import Derived.Test.YtiapminfldbgbaaMvR
set_option linter.unusedVariables false
set_option linter.unusedSimpArgs false
set_option linter.unnecessarySimpa false
namespace Go.Proofs.Ytiapminfldbgbaa
open Go.RowKit
attribute [local go_sem ↓] Go.wp_at_zero Go.wp_at_succ


set_option maxRecDepth 100000 in
set_option maxHeartbeats 4000000 in
theorem moveVectors_ok1c (A : Option Addr) (n c : Nat) (l : List Nat) (off k inc : Int) (A' : Option Addr) (n' c' : Nat) (l' : List Nat) (off' k' inc' : Int) (w : World) (hA : Row w A (f64s l)) (hA' : Row w A' (f64s l')) (hW : Wds l) (hW' : Wds l') (hl : l.length = n) (hl' : l'.length = n') (hn : n ≤ 1000) (hn' : n' ≤ 1000) (hk60 : k ≤ 60) (hk60' : k' ≤ 60) (ho : I64 off) (hk : I64 k) (hi : I64 inc) (ho' : I64 off') (hk' : I64 k') (hi' : I64 inc') (hP : pairI true n off k inc n off' k' inc' = 0) (o K i o' i' : Nat) (q1 : off = o) (q2 : k = K) (q3 : inc = i) (q4 : off' = o') (q5 : k' = K) (q6 : inc' = i') (hi1 : 1 ≤ i) (hi1' : 1 ≤ i') (hr : K = 0 ∨ o + (K - 1) * i < n) (hr' : K = 0 ∨ o' + (K - 1) * i' < n) (hmt : ∀ a, a < K → ∀ b, b < K → o + a * i ≠ o' + b * i') :
    Calls Try.prog 3 #[vec A n c off k inc, vec A' n' c' off' k' inc', .bool true, .bool false] w fun e w' => e = .returned (.bool true) ∧ Below w.heap.size w w' := by
  have HLg := Lib.hid (fun W => long_any A n c off k inc W)
  have HLg' := Lib.hid (fun W => long_any A' n' c' off' k' inc' W)
  rw [show longB n k = false by unfold longB; simp; omega] at HLg
  rw [show longB n' k' = false by unfold longB; simp; omega] at HLg'
  have HAl := Lib.hid (fun W (hb : Below w.heap.size w W) => show Calls Try.prog 9 #[vec A n c off k inc] W fun e w' => ∃ g c', e = .returned (vec (some ⟨g, 0, none⟩) n c' off k inc) ∧ Own w' g l ∧ W.heap.size ≤ g ∧ n ≤ c' ∧ c' < 9223372036854775808 ∧ Below W.heap.size W w' from by
    have := ralone_any A c l off k inc W (hA.below hb) (by omega)
    rw [hl] at this; exact this)
  have HAl' := Lib.hid (fun W (hb : Below w.heap.size w W) => show Calls Try.prog 9 #[vec A' n' c' off' k' inc'] W fun e w' => ∃ g c', e = .returned (vec (some ⟨g, 0, none⟩) n' c' off' k' inc') ∧ Own w' g l' ∧ W.heap.size ≤ g ∧ n' ≤ c' ∧ c' < 9223372036854775808 ∧ Below W.heap.size W w' from by
    have := ralone_any A' c' l' off' k' inc' W (hA'.below hb) (by omega)
    rw [hl'] at this; exact this)
  have HA := Lib.hid hA
  have HA' := Lib.hid hA'
  have Hl := Lib.hid hl
  have Hl' := Lib.hid hl'
  have HRp := Lib.hid (fun W => show Calls Try.prog 10 #[vec A n c off k inc, vec A n c off' k' inc', .bool (decide (0 < n))] W fun e w' => e = .returned (.int .i64 0) ∧ Below W.heap.size W w' from by
    have := rpair_any A A n c off k inc n c off' k' inc' (decide (0 < n)) W (by omega) (by omega) ho hk hi ho' hk' hi'
    rw [pairI_n0, hP] at this; exact this)
  have HPr := Lib.hid (fun W (g c c' : Nat) (hO : Own W g l) => show Calls Try.prog 11 #[vec (some ⟨g, 0, none⟩) n c off k inc, vec (some ⟨g, 0, none⟩) n c' off' k' inc'] W fun e w' => e = .returned (.int .i64 0) ∧ Below W.heap.size W w' from by
    have := pair_any g g c c' l l n n off k inc off' k' inc' W hO hO hl hl (by omega) (by omega) ho hk hi ho' hk' hi'
    rw [show decide (g = g) = true from decide_eq_true rfl, hP] at this; exact this)
  have hbd : o < 9223372036854775808 ∧ i < 9223372036854775808 ∧ o' < 9223372036854775808 ∧ i' < 9223372036854775808 ∧ K < 9223372036854775808 := by unfold I64 at *; omega
  obtain ⟨p1, hp1⟩ : ∃ p1, lst l o i K = p1 := ⟨_, rfl⟩
  obtain ⟨p2, hp2⟩ : ∃ p2, lst l o' i' K = p2 := ⟨_, rfl⟩
  obtain ⟨M1, hM1⟩ : ∃ M1, wrt l o i p2 K = M1 := ⟨_, rfl⟩
  obtain ⟨M2, hM2⟩ : ∃ M2, wrt M1 o' i' p1 K = M2 := ⟨_, rfl⟩
  have hW1 : Wds M1 := by rw [← hM1, ← hp2]; exact wds_wrt hW (wds_lst hW _ _ _) _ _ _
  have hW2 : Wds M2 := by rw [← hM2, ← hp1]; exact wds_wrt hW1 (wds_lst hW _ _ _) _ _ _
  have hL1 : M1.length = n := by rw [← hM1, wrt_length]; exact hl
  have hL2 : M2.length = n := by rw [← hM2, wrt_length]; exact hL1
  have HOp := Lib.hid (fun W (g c c' : Nat) (hO : Own W g l) => show Calls Try.prog 13 #[vec (some ⟨g, 0, none⟩) n c off k inc, vec (some ⟨g, 0, none⟩) n c' off' k' inc'] W fun e w' => e = .returned (.int .i64 0) ∧ Own w' g M1 ∧ Chg [g] W w' from by
    subst q1 q2 q3 q4 q5 q6
    rw [← hM1, ← hp2]
    exact mcopy_one g c c' n o i o' i' K l W hO hl hn hbd hi1 hi1' hr hr' hmt)
  have HLs := Lib.hid (fun W (hb : Below w.heap.size w W) => show Calls Try.prog 15 #[vec A n c off k inc] W fun e w' => ∃ B d, e = .returned (.slice B K d) ∧ Row w' B (f64s p1) ∧ Below W.heap.size W w' from by
    subst q1 q2 q3
    rw [← hp1]
    exact rlist_any A n c l o K i W (hA.below hb) hl (by omega) hr (by omega))
  have HLs' := Lib.hid (fun W (hb : Below w.heap.size w W) => show Calls Try.prog 15 #[vec A n c off' k' inc'] W fun e w' => ∃ B d, e = .returned (.slice B K d) ∧ Row w' B (f64s p2) ∧ Below W.heap.size W w' from by
    subst q4 q5 q6
    rw [← hp2]
    exact rlist_any A n c l o' K i' W (hA.below hb) hl (by omega) hr' (by omega))
  have HWr := Lib.hid (fun W (hb : Below w.heap.size w W) (B : Option Addr) (d : Nat) (hB : Row W B (f64s p2)) => show Calls Try.prog 16 #[vec A n c off k inc, .slice B K d] W fun e w' => ∃ g c', e = .returned (.slice (some ⟨g, 0, none⟩) n c') ∧ Own w' g M1 ∧ W.heap.size ≤ g ∧ Below W.heap.size W w' from by
    subst q1 q2 q3
    rw [← hM1]
    exact rwrite_any A n c l o K i B d p2 W (hA.below hb) hl (by omega) hi1 hr hB (by rw [← hp2, lst_length]))
  have HWr' := Lib.hid (fun W (g c : Nat) (hO : Own W g M1) (B : Option Addr) (d : Nat) (hB : Row W B (f64s p1)) => show Calls Try.prog 16 #[vec (some ⟨g, 0, none⟩) n c off' k' inc', .slice B K d] W fun e w' => ∃ g c', e = .returned (.slice (some ⟨g, 0, none⟩) n c') ∧ Own w' g M2 ∧ W.heap.size ≤ g ∧ Below W.heap.size W w' from by
    subst q4 q5 q6
    rw [← hM2]
    exact rwrite_any (some ⟨g, 0, none⟩) n c M1 o' K i' B d p1 W hO.row hL1 (by omega) hi1' hr' hB (by rw [← hp1, lst_length]))
  have HAll1 := Lib.hid (fun W (A B : Option Addr) (c d : Nat) (h1 : Row W A (f64s M1)) (h2 : Row W B (f64s M1)) => show Calls Try.prog 14 #[.slice A n c, .slice B n d] W fun e w' => e = .returned (.bool true) ∧ Below W.heap.size W w' from by
    have := rall_any A B c d M1 M1 W hW1 hW1 h1 h2 (by omega) (Alike.refl M1)
    rw [hL1] at this; exact this)
  clear hA hA' hW hW' hl hl' hn hn' hk60 hk60' ho hk hi ho' hk' hi' hP q1 q2 q3 q4 q5 q6 hi1 hi1' hr hr' hmt hbd hM1 hM2 hp1 hp2 hW1 hW2 hL1 hL2
  unfold vec at *
  go_enter Try.func3, Try.ntmps3
  have Ha0 := Lib.hid ((Blk.new w 24 #[.slice A n c, .int .i64 off, .int .i64 k, .int .i64 inc]).alloc (.cells #[.slice A' n' c', .int .i64 off', .int .i64 k', .int .i64 inc'] 24))
  have Hb0 := Lib.hid (Blk.new_ (w.alloc (.cells #[.slice A n c, .int .i64 off, .int .i64 k, .int .i64 inc] 24)) 24 #[.slice A' n' c', .int .i64 off', .int .i64 k', .int .i64 inc'] (w.heap.size + 1) (by simp))
  have HB0 := Lib.hid (((Below.refl w.heap.size w).alloc (Nat.le_refl _) (.cells #[.slice A n c, .int .i64 off, .int .i64 k, .int .i64 inc] 24)).alloc (by simp) (.cells #[.slice A' n' c', .int .i64 off', .int .i64 k', .int .i64 inc'] 24))
  go_wp2_with fail
  refine (awake4_any _).mono ?_
  rintro e w1 ⟨rfl, hb⟩
  have Ha1 := Lib.hid (Ha0.out.nxt hb)
  have Hb1 := Lib.hid (Hb0.out.nxt hb)
  have HB1 := Lib.hid (below_nx HB0.out hb)
  clear hb
  obtain ⟨a0, a1, a2, a3⟩ := cells4w Ha1.out
  obtain ⟨b0, b1, b2, b3⟩ := cells4w Hb1.out
  go_wp2_with fail
  refine (HLg.out _).mono ?_
  rintro e w2 ⟨rfl, hb⟩
  have Ha2 := Lib.hid (Ha1.out.nxt hb)
  have Hb2 := Lib.hid (Hb1.out.nxt hb)
  have HB2 := Lib.hid (below_nx HB1.out hb)
  clear hb
  clear a0 a1 a2 a3 b0 b1 b2 b3
  obtain ⟨a0, a1, a2, a3⟩ := cells4w Ha2.out
  obtain ⟨b0, b1, b2, b3⟩ := cells4w Hb2.out
  go_wp2_with fail
  refine (HLg'.out _).mono ?_
  rintro e w3 ⟨rfl, hb⟩
  have Ha3 := Lib.hid (Ha2.out.nxt hb)
  have Hb3 := Lib.hid (Hb2.out.nxt hb)
  have HB3 := Lib.hid (below_nx HB2.out hb)
  clear hb
  clear a0 a1 a2 a3 b0 b1 b2 b3
  obtain ⟨a0, a1, a2, a3⟩ := cells4w Ha3.out
  obtain ⟨b0, b1, b2, b3⟩ := cells4w Hb3.out
  go_wp2_with fail
  refine wp_region_inv [26, 27, 28, 29, 9, 10] (fun d s W => (d 0 = true → s 26 = .agg #[.slice A n c, .int .i64 off, .int .i64 k, .int .i64 inc]) ∧ (d 2 = true → s 28 = .agg #[.slice A' n' c', .int .i64 off', .int .i64 k', .int .i64 inc']) ∧ Twin w3.heap.size l l' (fun g c => .agg #[.slice (some ⟨g, 0, none⟩) n c, .int .i64 off, .int .i64 k, .int .i64 inc]) (fun g c => .agg #[.slice (some ⟨g, 0, none⟩) n' c, .int .i64 off', .int .i64 k', .int .i64 inc']) (d 1) (d 3) (s 27) (s 29) W ∧
    Two w3 24 #[.slice none 0 0, .int .i64 0, .int .i64 0, .int .i64 0] (cellsV (s 27)) (cellsV (s 29)) (d 4) (d 5) (d 6) (d 7) (s 9) (s 10) W ∧ (d 6 = true → d 4 = true ∧ d 1 = true) ∧ (d 7 = true → d 5 = true ∧ d 3 = true) ∧ (d 3 = true → d 1 = true))
    rfl (by kernel_rfl) ?_ ?_ ?_
  · exact ⟨by simp, by simp, fun h => by simp at h, ⟨(Below.refl _ _).drew, by simp, by simp, by simp⟩, by simp, by simp, by simp⟩
  · refine ⟨?_, ?_, ?_, ?_, ?_, ?_, ?_, ?_, trivial⟩
    all_goals
      intro d s W hJ hfr hd hdep
      simp only [List.mem_cons, forall_eq_or_imp, List.not_mem_nil, false_implies, implies_true, and_true, Region.binds] at hdep
      have f0 := hfr 4 (by decide)
      have f1 := hfr 5 (by decide)
      simp at f0 f1 hdep
      obtain ⟨h0, h2, hTw, hT, hx, hy, hv⟩ := hJ
      unfold OpSteps
    · have hW0 := below_nx HB3.out (hT.1)
      obtain ⟨p0, p1, p2, p3⟩ := cells4w (Ha3.out.below hT.1 Ha3.out.lt)
      simp [go_sem, evS, f0, p0, p1, p2, p3]
      exact ⟨fun _ => by simp [sput], fun h => by simpa [sput] using h2 (by simpa [did] using h), by simpa [sput, did] using hTw, by simpa [sput, did] using hT, fun h => by simpa [did] using hx (by simpa [did] using h), fun h => by simpa [did] using hy (by simpa [did] using h), fun h => by simpa [did] using hv (by simpa [did] using h)⟩
    · have g0 := h0 (by simpa using hdep)
      have hd3 : d 3 = false := by
        cases h : d 3
        · rfl
        · have := hv h; rw [hd] at this; cases this
      have hd6 : d 6 = false := by
        cases h : d 6
        · rfl
        · have := (hx h).2; rw [hd] at this; cases this
      simp [go_sem, evS, g0]
      refine (HAl.out W (below_nx HB3.out hT.1)).mono ?_
      rintro e W' ⟨g, c9, rfl, ho, hg, _, _, hb⟩
      refine ⟨_, rfl, ?_⟩
      have hT2 := hT.nxt hb
      rw [hd6] at hT2
      have hT2 := hT2.chg1 (a' := cellsV (.agg #[.slice (some ⟨g, 0, none⟩) n c9, .int .i64 off, .int .i64 k, .int .i64 inc]))
      have hTw2 := Twin.first (Z := w3.heap.size) (l := l) (l' := l') (f := (fun g c => .agg #[.slice (some ⟨g, 0, none⟩) n c, .int .i64 off, .int .i64 k, .int .i64 inc])) (f' := (fun g c => .agg #[.slice (some ⟨g, 0, none⟩) n' c, .int .i64 off', .int .i64 k', .int .i64 inc'])) (d3 := false) (vb := s 29) (c := c9) ho (Nat.le_trans hT.1.size hg) rfl
      exact ⟨fun h => by simpa [sput] using h0 (by simpa [did] using h), fun h => by simpa [sput] using h2 (by simpa [did] using h), by simpa [sput, did, hd3] using hTw2, by simpa [sput, did, hd6] using hT2, fun h => by simp [did, hd6] at h, fun h => by simpa [did] using hy (by simpa [did] using h), fun h => by simp [did]⟩
    · obtain ⟨p0, p1, p2, p3⟩ := cells4w (Hb3.out.below hT.1 Hb3.out.lt)
      simp [go_sem, evS, f1, p0, p1, p2, p3]
      exact ⟨fun h => by simpa [sput] using h0 (by simpa [did] using h), fun _ => by simp [sput], by simpa [sput, did] using hTw, by simpa [sput, did] using hT, fun h => by simpa [did] using hx (by simpa [did] using h), fun h => by simpa [did] using hy (by simpa [did] using h), fun h => by simpa [did] using hv (by simpa [did] using h)⟩
    · have g0 := h2 (by simpa using hdep.1)
      have hd1 : d 1 = true := by simpa using hdep.2
      have hd7 : d 7 = false := by
        cases h : d 7
        · rfl
        · have := (hy h).2; rw [hd] at this; cases this
      simp [go_sem, evS, g0]
      refine (HAl'.out W (below_nx HB3.out hT.1)).mono ?_
      rintro e W' ⟨g, c9, rfl, ho, hg, _, _, hb⟩
      refine ⟨_, rfl, ?_⟩
      have hT2 := hT.nxt hb
      rw [hd7] at hT2
      have hT2 := hT2.chg2 (b' := cellsV (.agg #[.slice (some ⟨g, 0, none⟩) n' c9, .int .i64 off', .int .i64 k', .int .i64 inc']))
      rw [hd1, hd] at hTw
      have hTw2 := hTw.second hb (c' := c9) ho (Nat.le_trans hT.1.size hg) hg
      exact ⟨fun h => by simpa [sput] using h0 (by simpa [did] using h), fun h => by simpa [sput] using h2 (by simpa [did] using h), by simpa [sput, did, hd1] using hTw2, by simpa [sput, did, hd7] using hT2, fun h => by simpa [did] using hx (by simpa [did] using h), fun h => by simp [did, hd7] at h, fun h => by simpa [did] using hd1⟩
    · have hd6 : d 6 = false := by
        cases h : d 6
        · rfl
        · have := (hx h).1; rw [hd] at this; cases this
      rw [hd, hd6] at hT
      have hT2 := hT.alloc1
      have hTw2 := hTw.nxt (below_one (W := W) (o := .cells #[.slice none 0 0, .int .i64 0, .int .i64 0, .int .i64 0] 24))
      simp [go_sem, evS]
      exact ⟨fun h => by simpa [sput] using h0 (by simpa [did] using h), fun h => by simpa [sput] using h2 (by simpa [did] using h), by simpa [sput, did] using hTw2, by simpa [sput, did, hd6] using hT2, fun h => by simp [did, hd6] at h, fun h => by simpa [did] using hy (by simpa [did] using h), fun h => by simpa [did] using hv (by simpa [did] using h)⟩
    · have hd7 : d 7 = false := by
        cases h : d 7
        · rfl
        · have := (hy h).1; rw [hd] at this; cases this
      rw [hd, hd7] at hT
      have hT2 := hT.alloc2
      have hTw2 := hTw.nxt (below_one (W := W) (o := .cells #[.slice none 0 0, .int .i64 0, .int .i64 0, .int .i64 0] 24))
      simp [go_sem, evS]
      exact ⟨fun h => by simpa [sput] using h0 (by simpa [did] using h), fun h => by simpa [sput] using h2 (by simpa [did] using h), by simpa [sput, did] using hTw2, by simpa [sput, did, hd7] using hT2, fun h => by simpa [did] using hx (by simpa [did] using h), fun h => by simp [did, hd7] at h, fun h => by simpa [did] using hv (by simpa [did] using h)⟩

    · have e4 : d 4 = true := by simp [hdep]
      have e1 : d 1 = true := by simp [hdep]
      have hTw0 := hTw
      obtain ⟨gg, cc, hva, hO1, hZ1, hrest⟩ := hTw e1
      rw [hd, e4] at hT
      obtain ⟨p, hp, hp2, hpB⟩ := hT.2.1 rfl
      simp only [Bool.false_eq_true, if_false] at hpB
      obtain ⟨r0, r1, r2, r3⟩ := cells4w hpB
      obtain ⟨q0, q1, q2, q3⟩ := frozen4w hpB
      rw [hp] at hT
      have hfar : ∀ k9, k9 ≠ p → _ := fun k9 (hk9 : k9 ≠ p) => heap_sets4 (w := W) hk9 (.slice (some ⟨gg, 0, none⟩) n cc) (.int .i64 off) (.int .i64 k) (.int .i64 inc)
      have hst := hpB.store4v (.slice (some ⟨gg, 0, none⟩) n cc) (.int .i64 off) (.int .i64 k) (.int .i64 inc)
      have hT2 := hT.store1 (W' := ((((W.setCell ⟨p, 0, none⟩ (.slice (some ⟨gg, 0, none⟩) n cc)).setCell ⟨p, 1, none⟩ (.int .i64 off)).setCell ⟨p, 2, none⟩ (.int .i64 k)).setCell ⟨p, 3, none⟩ (.int .i64 inc))) hfar (by rw [hva]; exact hst) (rest_sets4 _ _ _ _ _ _ _ _ _)
      have hTw2 := hTw0.far hpB (by decide) hfar
      simp [go_sem, evS, hp, hva, r0, r1, r2, r3, q0, q1, q2, q3]
      exact ⟨fun h => by simpa [sput] using h0 (by simpa [did] using h), fun h => by simpa [sput] using h2 (by simpa [did] using h), by simpa [sput, did] using hTw2, by simpa [sput, did, hp, e4] using hT2, fun _ => by simp [did, e4, e1], fun h => by simpa [did] using hy (by simpa [did] using h), fun h => by simpa [did] using hv (by simpa [did] using h)⟩

    · have e5 : d 5 = true := by simp [hdep]
      have e1 : d 3 = true := by simp [hdep]
      have hTw0 := hTw
      obtain ⟨gg0, cc0, hva0, hO1, hZ1, hrest⟩ := hTw (hv e1)
      obtain ⟨gg, cc, hva, hO2, hZ2, hne2⟩ := hrest e1
      rw [hd, e5] at hT
      obtain ⟨p, hp, hp2, hpB⟩ := hT.2.2.1 rfl
      simp only [Bool.false_eq_true, if_false] at hpB
      obtain ⟨r0, r1, r2, r3⟩ := cells4w hpB
      obtain ⟨q0, q1, q2, q3⟩ := frozen4w hpB
      rw [hp] at hT
      have hfar : ∀ k9, k9 ≠ p → _ := fun k9 (hk9 : k9 ≠ p) => heap_sets4 (w := W) hk9 (.slice (some ⟨gg, 0, none⟩) n' cc) (.int .i64 off') (.int .i64 k') (.int .i64 inc')
      have hst := hpB.store4v (.slice (some ⟨gg, 0, none⟩) n' cc) (.int .i64 off') (.int .i64 k') (.int .i64 inc')
      have hT2 := hT.store2 (W' := ((((W.setCell ⟨p, 0, none⟩ (.slice (some ⟨gg, 0, none⟩) n' cc)).setCell ⟨p, 1, none⟩ (.int .i64 off')).setCell ⟨p, 2, none⟩ (.int .i64 k')).setCell ⟨p, 3, none⟩ (.int .i64 inc'))) hfar (by rw [hva]; exact hst) (rest_sets4 _ _ _ _ _ _ _ _ _)
      have hTw2 := hTw0.far hpB (by decide) hfar
      simp [go_sem, evS, hp, hva, r0, r1, r2, r3, q0, q1, q2, q3]
      exact ⟨fun h => by simpa [sput] using h0 (by simpa [did] using h), fun h => by simpa [sput] using h2 (by simpa [did] using h), by simpa [sput, did] using hTw2, by simpa [sput, did, hp, e5] using hT2, fun h => by simpa [did] using hx (by simpa [did] using h), fun _ => by simp [did, e5, e1], fun h => by simpa [did] using hv (by simpa [did] using h)⟩

  intro d s W hJ hd
  obtain ⟨_, _, hTw, hT, _, _, _⟩ := hJ
  obtain ⟨g1, c1, hs27, hO1, hZ1, hrest⟩ := hTw (hd 1 (by decide))
  obtain ⟨g2, c2, hs29, hO2, hZ2, hg12⟩ := hrest (hd 3 (by decide))
  obtain ⟨hb, hp, hq, hne⟩ := hT
  obtain ⟨p, hp, hp2, hpB⟩ := hp (hd 4 (by decide))
  obtain ⟨q, hq, hq2, hqB⟩ := hq (hd 5 (by decide))
  have hpq := hne (hd 4 (by decide)) (hd 5 (by decide))
  rw [hd 6 (by decide), hs27] at hpB
  rw [hd 7 (by decide), hs29] at hqB
  rw [hp, hq] at hpq
  have hpq2 : p ≠ q := fun e => hpq (by rw [e])
  simp only [if_true, cellsV] at hpB hqB
  clear hne hTw hrest hpq hd
  simp [setAll, hp, hq]
  clear hp hq hs27 hs29
  generalize s 26 = s26
  generalize s 27 = s27
  generalize s 28 = s28
  generalize s 29 = s29
  have hlt3 := Hb3.out.lt
  have Ha4 := Lib.hid (Ha3.out.below hb Ha3.out.lt)
  have Hb4 := Lib.hid (Hb3.out.below hb Hb3.out.lt)
  have Hx4 := Lib.hid hpB
  have Hy4 := Lib.hid hqB
  have Hu4 := Lib.hid hO1
  have Hv4 := Lib.hid hO2
  have HB4 := Lib.hid (below_nx HB3.out hb)
  have Hg12 := Lib.hid hg12
  have HZs := Lib.hid (show w.heap.size + 1 < g1 ∧ w.heap.size + 1 < g2 ∧ w.heap.size + 1 < p ∧ w.heap.size + 1 < q by omega)
  have Hpq := Lib.hid hpq2
  clear hpB hqB hO1 hO2 hb hg12 hpq2 hZ1 hZ2 hp2 hq2 hlt3
  clear a0 a1 a2 a3 b0 b1 b2 b3
  obtain ⟨a0, a1, a2, a3⟩ := cells4w Ha4.out
  obtain ⟨b0, b1, b2, b3⟩ := cells4w Hb4.out
  obtain ⟨x0, x1, x2, x3⟩ := cells4w Hx4.out
  obtain ⟨y0, y1, y2, y3⟩ := cells4w Hy4.out
  obtain ⟨f0, _, _, _⟩ := frozen4w Hb4.out
  go_upto_region 8 with fail
  have hb9 : Blk (W.setCell ⟨w.heap.size + 1, 0, none⟩ (.slice A n c)) (w.heap.size + 1) 24 #[.slice A n c, .int .i64 off', .int .i64 k', .int .i64 inc'] := by simpa using Hb4.out.set_ 0 (.slice A n c)
  have Ha5 := Lib.hid (Ha4.out.other (p := ⟨w.heap.size + 1, 0, none⟩) (by simp) (.slice A n c))
  have Hx5 := Lib.hid (Hx4.out.other (p := ⟨w.heap.size + 1, 0, none⟩) (by have := HZs.out; show _ ≠ w.heap.size + 1; omega) (.slice A n c))
  have Hy5 := Lib.hid (Hy4.out.other (p := ⟨w.heap.size + 1, 0, none⟩) (by have := HZs.out; show _ ≠ w.heap.size + 1; omega) (.slice A n c))
  have Hu5 := Lib.hid (Hu4.out.other (p := ⟨w.heap.size + 1, 0, none⟩) (by have := HZs.out; show _ ≠ w.heap.size + 1; omega) (.slice A n c))
  have Hv5 := Lib.hid (Hv4.out.other (p := ⟨w.heap.size + 1, 0, none⟩) (by have := HZs.out; show _ ≠ w.heap.size + 1; omega) (.slice A n c))
  have Hb5 := Lib.hid hb9
  have HB5 := Lib.hid (HB4.out.setCell (p := ⟨w.heap.size + 1, 0, none⟩) (by simp) (.slice A n c))
  clear a0 a1 a2 a3 b0 b1 b2 b3 x0 x1 x2 x3 y0 y1 y2 y3
  clear hb9 f0
  generalize (W.setCell ⟨w.heap.size + 1, 0, none⟩ (.slice A n c)) = W1 at *
  obtain ⟨a0, a1, a2, a3⟩ := cells4w Ha5.out
  obtain ⟨b0, b1, b2, b3⟩ := cells4w Hb5.out
  obtain ⟨x0, x1, x2, x3⟩ := cells4w Hx5.out
  obtain ⟨y0, y1, y2, y3⟩ := cells4w Hy5.out
  obtain ⟨f0, f1, f2, f3⟩ := frozen4w Hy5.out
  go_upto_region 9 with fail
  have Hy6 := Lib.hid (Hy5.out.store4v (.slice A n c) (.int .i64 off') (.int .i64 k') (.int .i64 inc'))
  have Ha6 := Lib.hid (show Blk ((((W1.setCell ⟨q, 0, none⟩ (.slice A n c)).setCell ⟨q, 1, none⟩ (.int .i64 off')).setCell ⟨q, 2, none⟩ (.int .i64 k')).setCell ⟨q, 3, none⟩ (.int .i64 inc')) _ _ _ from (heap_sets4 (by have := HZs.out; omega) (.slice A n c) (.int .i64 off') (.int .i64 k') (.int .i64 inc')).trans Ha5.out)
  have Hb6 := Lib.hid (show Blk ((((W1.setCell ⟨q, 0, none⟩ (.slice A n c)).setCell ⟨q, 1, none⟩ (.int .i64 off')).setCell ⟨q, 2, none⟩ (.int .i64 k')).setCell ⟨q, 3, none⟩ (.int .i64 inc')) _ _ _ from (heap_sets4 (by have := HZs.out; omega) (.slice A n c) (.int .i64 off') (.int .i64 k') (.int .i64 inc')).trans Hb5.out)
  have Hx6 := Lib.hid (show Blk ((((W1.setCell ⟨q, 0, none⟩ (.slice A n c)).setCell ⟨q, 1, none⟩ (.int .i64 off')).setCell ⟨q, 2, none⟩ (.int .i64 k')).setCell ⟨q, 3, none⟩ (.int .i64 inc')) _ _ _ from (heap_sets4 (fun e => Hpq.out e) (.slice A n c) (.int .i64 off') (.int .i64 k') (.int .i64 inc')).trans Hx5.out)
  have Hu6 := Lib.hid (own_far (W' := ((((W1.setCell ⟨q, 0, none⟩ (.slice A n c)).setCell ⟨q, 1, none⟩ (.int .i64 off')).setCell ⟨q, 2, none⟩ (.int .i64 k')).setCell ⟨q, 3, none⟩ (.int .i64 inc'))) Hu5.out (fun k9 hk9 => heap_sets4 hk9 (.slice A n c) (.int .i64 off') (.int .i64 k') (.int .i64 inc')) (own_ne Hu5.out Hy5.out (by decide)))
  have Hv6 := Lib.hid (own_far (W' := ((((W1.setCell ⟨q, 0, none⟩ (.slice A n c)).setCell ⟨q, 1, none⟩ (.int .i64 off')).setCell ⟨q, 2, none⟩ (.int .i64 k')).setCell ⟨q, 3, none⟩ (.int .i64 inc'))) Hv5.out (fun k9 hk9 => heap_sets4 hk9 (.slice A n c) (.int .i64 off') (.int .i64 k') (.int .i64 inc')) (own_ne Hv5.out Hy5.out (by decide)))
  have HB6 := Lib.hid (below_sets4 HB5.out (show w.heap.size ≤ q by have := HZs.out; omega) (.slice A n c) (.int .i64 off') (.int .i64 k') (.int .i64 inc'))
  clear a0 a1 a2 a3 b0 b1 b2 b3 x0 x1 x2 x3 y0 y1 y2 y3
  clear f0 f1 f2 f3
  generalize ((((W1.setCell ⟨q, 0, none⟩ (.slice A n c)).setCell ⟨q, 1, none⟩ (.int .i64 off')).setCell ⟨q, 2, none⟩ (.int .i64 k')).setCell ⟨q, 3, none⟩ (.int .i64 inc')) = W2 at *
  obtain ⟨a0, a1, a2, a3⟩ := cells4w Ha6.out
  obtain ⟨b0, b1, b2, b3⟩ := cells4w Hb6.out
  obtain ⟨x0, x1, x2, x3⟩ := cells4w Hx6.out
  obtain ⟨y0, y1, y2, y3⟩ := cells4w Hy6.out
  obtain ⟨f0, _, _, _⟩ := frozen4w Hy6.out
  go_upto_region 10 with fail
  have hb9 : Blk (W2.setCell ⟨q, 0, none⟩ (.slice (some ⟨g1, 0, none⟩) n c1)) q 24 #[.slice (some ⟨g1, 0, none⟩) n c1, .int .i64 off', .int .i64 k', .int .i64 inc'] := by simpa using Hy6.out.set_ 0 (.slice (some ⟨g1, 0, none⟩) n c1)
  have Ha7 := Lib.hid (Ha6.out.other (p := ⟨q, 0, none⟩) (by have := HZs.out; show _ ≠ q; omega) (.slice (some ⟨g1, 0, none⟩) n c1))
  have Hb7 := Lib.hid (Hb6.out.other (p := ⟨q, 0, none⟩) (by have := HZs.out; show _ ≠ q; omega) (.slice (some ⟨g1, 0, none⟩) n c1))
  have Hx7 := Lib.hid (Hx6.out.other (p := ⟨q, 0, none⟩) (fun e => Hpq.out e) (.slice (some ⟨g1, 0, none⟩) n c1))
  have Hu7 := Lib.hid (Hu6.out.other (p := ⟨q, 0, none⟩) (own_ne Hu6.out Hy6.out (by decide)) (.slice (some ⟨g1, 0, none⟩) n c1))
  have Hv7 := Lib.hid (Hv6.out.other (p := ⟨q, 0, none⟩) (own_ne Hv6.out Hy6.out (by decide)) (.slice (some ⟨g1, 0, none⟩) n c1))
  have Hy7 := Lib.hid hb9
  have HB7 := Lib.hid (HB6.out.setCell (p := ⟨q, 0, none⟩) (by show _ ≤ q; have := HZs.out; omega) (.slice (some ⟨g1, 0, none⟩) n c1))
  clear a0 a1 a2 a3 b0 b1 b2 b3 x0 x1 x2 x3 y0 y1 y2 y3
  clear hb9 f0
  generalize (W2.setCell ⟨q, 0, none⟩ (.slice (some ⟨g1, 0, none⟩) n c1)) = W3 at *
  obtain ⟨a0, a1, a2, a3⟩ := cells4w Ha7.out
  obtain ⟨b0, b1, b2, b3⟩ := cells4w Hb7.out
  obtain ⟨x0, x1, x2, x3⟩ := cells4w Hx7.out
  obtain ⟨y0, y1, y2, y3⟩ := cells4w Hy7.out
  go_wp2_with fail
  refine (HRp.out _).mono ?_
  rintro e w5 ⟨rfl, hb⟩
  have Ha8 := Lib.hid (Ha7.out.nxt hb)
  have Hb8 := Lib.hid (Hb7.out.nxt hb)
  have Hx8 := Lib.hid (Hx7.out.nxt hb)
  have Hy8 := Lib.hid (Hy7.out.nxt hb)
  have Hu8 := Lib.hid (Hu7.out.nxt hb)
  have Hv8 := Lib.hid (Hv7.out.nxt hb)
  have HB8 := Lib.hid (below_nx HB7.out hb)
  clear hb
  clear a0 a1 a2 a3 b0 b1 b2 b3 x0 x1 x2 x3 y0 y1 y2 y3
  obtain ⟨a0, a1, a2, a3⟩ := cells4w Ha8.out
  obtain ⟨b0, b1, b2, b3⟩ := cells4w Hb8.out
  obtain ⟨x0, x1, x2, x3⟩ := cells4w Hx8.out
  obtain ⟨y0, y1, y2, y3⟩ := cells4w Hy8.out
  go_wp2_with fail
  refine (HPr.out _ _ _ _ Hu8.out).mono ?_
  rintro e w6 ⟨rfl, hb⟩
  have Ha9 := Lib.hid (Ha8.out.nxt hb)
  have Hb9 := Lib.hid (Hb8.out.nxt hb)
  have Hx9 := Lib.hid (Hx8.out.nxt hb)
  have Hy9 := Lib.hid (Hy8.out.nxt hb)
  have Hu9 := Lib.hid (Hu8.out.nxt hb)
  have Hv9 := Lib.hid (Hv8.out.nxt hb)
  have HB9 := Lib.hid (below_nx HB8.out hb)
  clear hb
  clear a0 a1 a2 a3 b0 b1 b2 b3 x0 x1 x2 x3 y0 y1 y2 y3
  obtain ⟨a0, a1, a2, a3⟩ := cells4w Ha9.out
  obtain ⟨b0, b1, b2, b3⟩ := cells4w Hb9.out
  obtain ⟨x0, x1, x2, x3⟩ := cells4w Hx9.out
  obtain ⟨y0, y1, y2, y3⟩ := cells4w Hy9.out
  go_wp2_with fail
  refine (HOp.out _ _ _ _ Hu9.out).mono ?_
  rintro e w7 ⟨rfl, ho1, hc⟩
  have Ha10 := Lib.hid (hc.blk (by have := HZs.out; simp; omega) Ha9.out)
  have Hb10 := Lib.hid (hc.blk (by have := HZs.out; simp; omega) Hb9.out)
  have Hx10 := Lib.hid (hc.blk (fun h => own_ne Hu9.out Hx9.out (by decide) (List.mem_singleton.1 h).symm) Hx9.out)
  have Hy10 := Lib.hid (hc.blk (fun h => own_ne Hu9.out Hy9.out (by decide) (List.mem_singleton.1 h).symm) Hy9.out)
  have Hu10 := Lib.hid ho1
  have HB10 := Lib.hid (hc.below HB9.out HB9.out.size (fun x hx => by have := HZs.out; simp at hx; omega))
  clear ho1 hc
  clear a0 a1 a2 a3 b0 b1 b2 b3 x0 x1 x2 x3 y0 y1 y2 y3
  obtain ⟨a0, a1, a2, a3⟩ := cells4w Ha10.out
  obtain ⟨b0, b1, b2, b3⟩ := cells4w Hb10.out
  obtain ⟨x0, x1, x2, x3⟩ := cells4w Hx10.out
  obtain ⟨y0, y1, y2, y3⟩ := cells4w Hy10.out
  go_wp2_with fail
  have HBd := Lib.hid HB10.out.drew
  go_region_held3 (fun w' => w'.cell? ⟨w.heap.size, 0, none⟩ = some (.slice A n c) ∧ w'.cell? ⟨w.heap.size, 1, none⟩ = some (.int .i64 off) ∧ w'.cell? ⟨w.heap.size, 2, none⟩ = some (.int .i64 k) ∧ w'.cell? ⟨w.heap.size, 3, none⟩ = some (.int .i64 inc) ∧ w'.cell? ⟨w.heap.size + 1, 0, none⟩ = some (.slice A n c) ∧ w'.cell? ⟨w.heap.size + 1, 1, none⟩ = some (.int .i64 off') ∧ w'.cell? ⟨w.heap.size + 1, 2, none⟩ = some (.int .i64 k') ∧ w'.cell? ⟨w.heap.size + 1, 3, none⟩ = some (.int .i64 inc') ∧ Below w.heap.size w w')
    (first | exact ⟨a0, a1, a2, a3, b0, b1, b2, b3, HBd.out⟩ | (with_reducible exact held8 ‹_ ∧ _ ∧ _ ∧ _ ∧ _ ∧ _ ∧ _ ∧ _ ∧ Below w.heap.size w _› hbA) | (with_reducible exact held8 ‹_ ∧ _ ∧ _ ∧ _ ∧ _ ∧ _ ∧ _ ∧ _ ∧ Below w.heap.size w _› hbB))
    (first
      | (go_at_call 15; (with_reducible refine (HLs.out _ (‹_ ∧ _ ∧ _ ∧ _ ∧ _ ∧ _ ∧ _ ∧ _ ∧ Below w.heap.size w _›).2.2.2.2.2.2.2.2).mono ?_); rintro e1 wA ⟨LA, dA, rfl, hrA, hbA⟩; skip)
      | (go_at_call 15; (with_reducible refine (HLs'.out _ (‹_ ∧ _ ∧ _ ∧ _ ∧ _ ∧ _ ∧ _ ∧ _ ∧ Below w.heap.size w _›).2.2.2.2.2.2.2.2).mono ?_); rintro e1 wB ⟨LB, dB, rfl, hrB, hbB⟩; skip))
  have hrA2 := hrA.below hbB
  have hbAB := hbA.trans (hbB.mono hbA.size)
  have hb : Below w7.heap.size w7 wB := ⟨hbAB.os, hbAB.tape, hbAB.output, hbAB.size, hbAB.block⟩
  have Ha11 := Lib.hid (Ha10.out.nxt hb)
  have Hb11 := Lib.hid (Hb10.out.nxt hb)
  have Hx11 := Lib.hid (Hx10.out.nxt hb)
  have Hy11 := Lib.hid (Hy10.out.nxt hb)
  have Hu11 := Lib.hid (Hu10.out.nxt hb)
  have HB11 := Lib.hid (below_nx HB10.out hb)
  clear hb
  clear a0 a1 a2 a3 b0 b1 b2 b3 x0 x1 x2 x3 y0 y1 y2 y3
  obtain ⟨a0, a1, a2, a3⟩ := cells4w Ha11.out
  obtain ⟨b0, b1, b2, b3⟩ := cells4w Hb11.out
  obtain ⟨x0, x1, x2, x3⟩ := cells4w Hx11.out
  obtain ⟨y0, y1, y2, y3⟩ := cells4w Hy11.out
  have HrA := Lib.hid hrA2
  have HrB := Lib.hid hrB
  clear hrA hrA2 hrB hbA hbB hbAB
  go_upto_region 23 with fail
  have hb := below_one (W := wB) (o := (.cells #[.slice A n c, .int .i64 off, .int .i64 k, .int .i64 inc] 24))
  have Ht12 := Lib.hid (Blk.new wB 24 #[.slice A n c, .int .i64 off, .int .i64 k, .int .i64 inc])
  have HrA2 := Lib.hid (HrA.out.below hb)
  have HrB2 := Lib.hid (HrB.out.below hb)
  have Ha12 := Lib.hid (Ha11.out.nxt hb)
  have Hb12 := Lib.hid (Hb11.out.nxt hb)
  have Hx12 := Lib.hid (Hx11.out.nxt hb)
  have Hy12 := Lib.hid (Hy11.out.nxt hb)
  have Hu12 := Lib.hid (Hu11.out.nxt hb)
  have HB12 := Lib.hid (below_nx HB11.out hb)
  clear hb
  clear a0 a1 a2 a3 b0 b1 b2 b3 x0 x1 x2 x3 y0 y1 y2 y3
  obtain ⟨a0, a1, a2, a3⟩ := cells4w Ha12.out
  obtain ⟨b0, b1, b2, b3⟩ := cells4w Hb12.out
  obtain ⟨x0, x1, x2, x3⟩ := cells4w Hx12.out
  obtain ⟨y0, y1, y2, y3⟩ := cells4w Hy12.out
  have HtR := Lib.hid (show w.heap.size + 1 < wB.heap.size ∧ p < wB.heap.size ∧ q < wB.heap.size from ⟨Hb11.out.lt, Hx11.out.lt, Hy11.out.lt⟩)
  generalize wB.heap.size = r at *
  generalize wB.alloc (.cells #[.slice A n c, .int .i64 off, .int .i64 k, .int .i64 inc] 24) = wC at *
  clear a0 a1 a2 a3 b0 b1 b2 b3 x0 x1 x2 x3 y0 y1 y2 y3
  obtain ⟨a0, a1, a2, a3⟩ := cells4w Ha12.out
  obtain ⟨b0, b1, b2, b3⟩ := cells4w Hb12.out
  obtain ⟨x0, x1, x2, x3⟩ := cells4w Hx12.out
  obtain ⟨y0, y1, y2, y3⟩ := cells4w Hy12.out
  obtain ⟨t0, t1, t2, t3⟩ := cells4w Ht12.out
  go_wp2_with fail
  refine (HWr.out _ HB12.out _ _ HrB2.out).mono ?_
  rintro e wD ⟨g3, c3, rfl, ho3, hg3, hb⟩
  have HrA3 := Lib.hid (HrA2.out.below hb)
  have Ha13 := Lib.hid (Ha12.out.nxt hb)
  have Hb13 := Lib.hid (Hb12.out.nxt hb)
  have Hx13 := Lib.hid (Hx12.out.nxt hb)
  have Hy13 := Lib.hid (Hy12.out.nxt hb)
  have Ht13 := Lib.hid (Ht12.out.nxt hb)
  have Hu13 := Lib.hid (Hu12.out.nxt hb)
  have HB13 := Lib.hid (below_nx HB12.out hb)
  clear hb
  clear a0 a1 a2 a3 b0 b1 b2 b3 x0 x1 x2 x3 y0 y1 y2 y3 t0 t1 t2 t3
  obtain ⟨a0, a1, a2, a3⟩ := cells4w Ha13.out
  obtain ⟨b0, b1, b2, b3⟩ := cells4w Hb13.out
  obtain ⟨x0, x1, x2, x3⟩ := cells4w Hx13.out
  obtain ⟨y0, y1, y2, y3⟩ := cells4w Hy13.out
  obtain ⟨t0, t1, t2, t3⟩ := cells4w Ht13.out
  have Hs13 := Lib.hid ho3
  clear ho3 hg3
  obtain ⟨f0, _, _, _⟩ := frozen4w Ht13.out
  go_upto_region 24 with fail
  have hb9 : Blk (wD.setCell ⟨r, 0, none⟩ (.slice (some ⟨g3, 0, none⟩) n c3)) r 24 #[.slice (some ⟨g3, 0, none⟩) n c3, .int .i64 off, .int .i64 k, .int .i64 inc] := by simpa using Ht13.out.set_ 0 (.slice (some ⟨g3, 0, none⟩) n c3)
  have Ha14 := Lib.hid (Ha13.out.other (p := ⟨r, 0, none⟩) (by have := HtR.out; show _ ≠ r; omega) (.slice (some ⟨g3, 0, none⟩) n c3))
  have Hb14 := Lib.hid (Hb13.out.other (p := ⟨r, 0, none⟩) (by have := HtR.out; show _ ≠ r; omega) (.slice (some ⟨g3, 0, none⟩) n c3))
  have Hx14 := Lib.hid (Hx13.out.other (p := ⟨r, 0, none⟩) (by have := HtR.out; show _ ≠ r; omega) (.slice (some ⟨g3, 0, none⟩) n c3))
  have Hy14 := Lib.hid (Hy13.out.other (p := ⟨r, 0, none⟩) (by have := HtR.out; show _ ≠ r; omega) (.slice (some ⟨g3, 0, none⟩) n c3))
  have Hu14 := Lib.hid (Hu13.out.other (p := ⟨r, 0, none⟩) (own_ne Hu13.out Ht13.out (by decide)) (.slice (some ⟨g3, 0, none⟩) n c3))
  have Hs14 := Lib.hid (Hs13.out.other (p := ⟨r, 0, none⟩) (own_ne Hs13.out Ht13.out (by decide)) (.slice (some ⟨g3, 0, none⟩) n c3))
  have Ht14 := Lib.hid hb9
  have HB14 := Lib.hid (HB13.out.setCell (p := ⟨r, 0, none⟩) (by show _ ≤ r; have := HtR.out; omega) (.slice (some ⟨g3, 0, none⟩) n c3))
  have HrA4 := Lib.hid (show Row (wD.setCell ⟨r, 0, none⟩ (.slice (some ⟨g3, 0, none⟩) n c3)) LA (f64s p1) from row_set HrA3.out Ht13.out (by decide) (vec_nofloat _ _ _ _ _ _) (.slice (some ⟨g3, 0, none⟩) n c3))
  clear a0 a1 a2 a3 b0 b1 b2 b3 x0 x1 x2 x3 y0 y1 y2 y3 t0 t1 t2 t3
  clear hb9 f0
  generalize (wD.setCell ⟨r, 0, none⟩ (.slice (some ⟨g3, 0, none⟩) n c3)) = wE at *
  obtain ⟨a0, a1, a2, a3⟩ := cells4w Ha14.out
  obtain ⟨b0, b1, b2, b3⟩ := cells4w Hb14.out
  obtain ⟨x0, x1, x2, x3⟩ := cells4w Hx14.out
  obtain ⟨y0, y1, y2, y3⟩ := cells4w Hy14.out
  obtain ⟨t0, t1, t2, t3⟩ := cells4w Ht14.out
  go_upto_region 25 with fail
  have hb := below_one (W := wE) (o := (.cells #[.slice A n c, .int .i64 off', .int .i64 k', .int .i64 inc'] 24))
  have Hf15 := Lib.hid (Blk.new wE 24 #[.slice A n c, .int .i64 off', .int .i64 k', .int .i64 inc'])
  have HrA5 := Lib.hid (HrA4.out.below hb)
  have HfR := Lib.hid (show w.heap.size + 1 < wE.heap.size ∧ p < wE.heap.size ∧ q < wE.heap.size ∧ r < wE.heap.size from ⟨Hb14.out.lt, Hx14.out.lt, Hy14.out.lt, Ht14.out.lt⟩)
  have Ha15 := Lib.hid (Ha14.out.nxt hb)
  have Hb15 := Lib.hid (Hb14.out.nxt hb)
  have Hx15 := Lib.hid (Hx14.out.nxt hb)
  have Hy15 := Lib.hid (Hy14.out.nxt hb)
  have Ht15 := Lib.hid (Ht14.out.nxt hb)
  have Hu15 := Lib.hid (Hu14.out.nxt hb)
  have Hs15 := Lib.hid (Hs14.out.nxt hb)
  have HB15 := Lib.hid (below_nx HB14.out hb)
  clear hb
  clear a0 a1 a2 a3 b0 b1 b2 b3 x0 x1 x2 x3 y0 y1 y2 y3 t0 t1 t2 t3
  obtain ⟨a0, a1, a2, a3⟩ := cells4w Ha15.out
  obtain ⟨b0, b1, b2, b3⟩ := cells4w Hb15.out
  obtain ⟨x0, x1, x2, x3⟩ := cells4w Hx15.out
  obtain ⟨y0, y1, y2, y3⟩ := cells4w Hy15.out
  obtain ⟨t0, t1, t2, t3⟩ := cells4w Ht15.out
  generalize wE.heap.size = r2 at *
  generalize wE.alloc (.cells #[.slice A n c, .int .i64 off', .int .i64 k', .int .i64 inc'] 24) = wF at *
  clear a0 a1 a2 a3 b0 b1 b2 b3 x0 x1 x2 x3 y0 y1 y2 y3 t0 t1 t2 t3
  obtain ⟨a0, a1, a2, a3⟩ := cells4w Ha15.out
  obtain ⟨b0, b1, b2, b3⟩ := cells4w Hb15.out
  obtain ⟨x0, x1, x2, x3⟩ := cells4w Hx15.out
  obtain ⟨y0, y1, y2, y3⟩ := cells4w Hy15.out
  obtain ⟨t0, t1, t2, t3⟩ := cells4w Ht15.out
  obtain ⟨f0, f1, f2, f3⟩ := cells4w Hf15.out
  obtain ⟨f0, _, _, _⟩ := frozen4w Hf15.out
  go_upto_region 27 with fail
  have hb9 : Blk (wF.setCell ⟨r2, 0, none⟩ (.slice (some ⟨g3, 0, none⟩) n c3)) r2 24 #[.slice (some ⟨g3, 0, none⟩) n c3, .int .i64 off', .int .i64 k', .int .i64 inc'] := by simpa using Hf15.out.set_ 0 (.slice (some ⟨g3, 0, none⟩) n c3)
  have Ha16 := Lib.hid (Ha15.out.other (p := ⟨r2, 0, none⟩) (by have := HfR.out; show _ ≠ r2; omega) (.slice (some ⟨g3, 0, none⟩) n c3))
  have Hb16 := Lib.hid (Hb15.out.other (p := ⟨r2, 0, none⟩) (by have := HfR.out; show _ ≠ r2; omega) (.slice (some ⟨g3, 0, none⟩) n c3))
  have Hx16 := Lib.hid (Hx15.out.other (p := ⟨r2, 0, none⟩) (by have := HfR.out; show _ ≠ r2; omega) (.slice (some ⟨g3, 0, none⟩) n c3))
  have Hy16 := Lib.hid (Hy15.out.other (p := ⟨r2, 0, none⟩) (by have := HfR.out; show _ ≠ r2; omega) (.slice (some ⟨g3, 0, none⟩) n c3))
  have Ht16 := Lib.hid (Ht15.out.other (p := ⟨r2, 0, none⟩) (by have := HfR.out; show _ ≠ r2; omega) (.slice (some ⟨g3, 0, none⟩) n c3))
  have Hu16 := Lib.hid (Hu15.out.other (p := ⟨r2, 0, none⟩) (own_ne Hu15.out Hf15.out (by decide)) (.slice (some ⟨g3, 0, none⟩) n c3))
  have Hs16 := Lib.hid (Hs15.out.other (p := ⟨r2, 0, none⟩) (own_ne Hs15.out Hf15.out (by decide)) (.slice (some ⟨g3, 0, none⟩) n c3))
  have Hf16 := Lib.hid hb9
  have HB16 := Lib.hid (HB15.out.setCell (p := ⟨r2, 0, none⟩) (by show _ ≤ r2; have := HfR.out; omega) (.slice (some ⟨g3, 0, none⟩) n c3))
  have HrA6 := Lib.hid (show Row (wF.setCell ⟨r2, 0, none⟩ (.slice (some ⟨g3, 0, none⟩) n c3)) LA (f64s p1) from row_set HrA5.out Hf15.out (by decide) (vec_nofloat _ _ _ _ _ _) (.slice (some ⟨g3, 0, none⟩) n c3))
  clear a0 a1 a2 a3 b0 b1 b2 b3 x0 x1 x2 x3 y0 y1 y2 y3 t0 t1 t2 t3 f0 f1 f2 f3
  clear hb9 f0
  generalize (wF.setCell ⟨r2, 0, none⟩ (.slice (some ⟨g3, 0, none⟩) n c3)) = wF2 at *
  obtain ⟨a0, a1, a2, a3⟩ := cells4w Ha16.out
  obtain ⟨b0, b1, b2, b3⟩ := cells4w Hb16.out
  obtain ⟨x0, x1, x2, x3⟩ := cells4w Hx16.out
  obtain ⟨y0, y1, y2, y3⟩ := cells4w Hy16.out
  obtain ⟨t0, t1, t2, t3⟩ := cells4w Ht16.out
  obtain ⟨f0, f1, f2, f3⟩ := cells4w Hf16.out
  go_wp2_with fail
  refine (HAll1.out _ _ _ _ _ Hu16.out.row Hs16.out.row).mono ?_
  rintro e wI ⟨rfl, hb⟩
  have Ha17 := Lib.hid (Ha16.out.nxt hb)
  have Hb17 := Lib.hid (Hb16.out.nxt hb)
  have Hx17 := Lib.hid (Hx16.out.nxt hb)
  have Hy17 := Lib.hid (Hy16.out.nxt hb)
  have Ht17 := Lib.hid (Ht16.out.nxt hb)
  have Hf17 := Lib.hid (Hf16.out.nxt hb)
  have Hu17 := Lib.hid (Hu16.out.nxt hb)
  have Hs17 := Lib.hid (Hs16.out.nxt hb)
  have HB17 := Lib.hid (below_nx HB16.out hb)
  clear hb
  clear a0 a1 a2 a3 b0 b1 b2 b3 x0 x1 x2 x3 y0 y1 y2 y3 t0 t1 t2 t3 f0 f1 f2 f3
  obtain ⟨a0, a1, a2, a3⟩ := cells4w Ha17.out
  obtain ⟨b0, b1, b2, b3⟩ := cells4w Hb17.out
  obtain ⟨x0, x1, x2, x3⟩ := cells4w Hx17.out
  obtain ⟨y0, y1, y2, y3⟩ := cells4w Hy17.out
  obtain ⟨t0, t1, t2, t3⟩ := cells4w Ht17.out
  obtain ⟨f0, f1, f2, f3⟩ := cells4w Hf17.out
  go_wp2_with fail
  refine (awake4_any _).mono ?_
  rintro e wK ⟨rfl, hb⟩
  have Ha18 := Lib.hid (Ha17.out.nxt hb)
  have Hb18 := Lib.hid (Hb17.out.nxt hb)
  have Hx18 := Lib.hid (Hx17.out.nxt hb)
  have Hy18 := Lib.hid (Hy17.out.nxt hb)
  have Ht18 := Lib.hid (Ht17.out.nxt hb)
  have Hf18 := Lib.hid (Hf17.out.nxt hb)
  have Hu18 := Lib.hid (Hu17.out.nxt hb)
  have Hs18 := Lib.hid (Hs17.out.nxt hb)
  have HB18 := Lib.hid (below_nx HB17.out hb)
  clear hb
  clear a0 a1 a2 a3 b0 b1 b2 b3 x0 x1 x2 x3 y0 y1 y2 y3 t0 t1 t2 t3 f0 f1 f2 f3
  obtain ⟨a0, a1, a2, a3⟩ := cells4w Ha18.out
  obtain ⟨b0, b1, b2, b3⟩ := cells4w Hb18.out
  obtain ⟨x0, x1, x2, x3⟩ := cells4w Hx18.out
  obtain ⟨y0, y1, y2, y3⟩ := cells4w Hy18.out
  obtain ⟨t0, t1, t2, t3⟩ := cells4w Ht18.out
  obtain ⟨f0, f1, f2, f3⟩ := cells4w Hf18.out
  go_wp2_with fail
  go_ret
  exact ⟨rfl, HB18.out⟩
end Go.Proofs.Ytiapminfldbgbaa
