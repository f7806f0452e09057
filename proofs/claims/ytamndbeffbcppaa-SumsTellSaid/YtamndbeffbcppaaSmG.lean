/-
SumsTell, walked. Conditions: as each says.
-/
import Derived.Test.YtamndbeffbcppaaSmE
set_option linter.unusedVariables false
set_option linter.unusedSimpArgs false
set_option linter.unnecessarySimpa false
namespace Go.Proofs.Ytamndbeffbcppaa
open Go.RowKit
attribute [local go_sem ↓] Go.wp_at_zero Go.wp_at_succ


set_option maxRecDepth 100000 in
set_option maxHeartbeats 4000000 in
theorem sumsTell_y (A : Option Addr) (n c : Nat) (l : List Nat) (off k inc : Int) (A' : Option Addr) (n' c' : Nat) (l' : List Nat) (off' k' inc' : Int) (w : World) (hA : Row w A (f64s l)) (hA' : Row w A' (f64s l')) (hW : Wds l) (hW' : Wds l') (hl : l.length = n) (hl' : l'.length = n') (hn : n ≤ 1000) (hn' : n' ≤ 1000) (hk60 : k ≤ 60) (hk60' : k' ≤ 60) (ho : I64 off) (hk : I64 k) (hi : I64 inc) (ho' : I64 off') (hk' : I64 k') (hi' : I64 inc') (o K i : Nat) (q1 : off = o) (q2 : k = K) (q3 : inc = i) (hr : K = 0 ∨ o + (K - 1) * i < n) (hRX : vecB n off k inc = true) (hRY : vecB n' off' k' inc' = false) :
    Calls Try.prog 5 #[vec A n c off k inc, vec A' n' c' off' k' inc'] w fun e w' => e = .returned (.bool true) ∧ Below w.heap.size w w' := by
  have hP : dotI n off k inc n' off' k' inc' = 1 := by unfold dotI; rw [hRY]; simp
  have HLg := Lib.hid (fun W => long_any A n c off k inc W)
  have HLg' := Lib.hid (fun W => long_any A' n' c' off' k' inc' W)
  rw [show longB n k = false by unfold longB; simp; omega] at HLg
  rw [show longB n' k' = false by unfold longB; simp; omega] at HLg'
  have HAl := Lib.hid (fun W (hb : Below w.heap.size w W) => show Calls Try.prog 24 #[vec A n c off k inc] W fun e w' => ∃ g c', e = .returned (vec (some ⟨g, 0, none⟩) n c' off k inc) ∧ Own w' g l ∧ W.heap.size ≤ g ∧ n ≤ c' ∧ c' < 9223372036854775808 ∧ Below W.heap.size W w' from by
    have := ralone_any A c l off k inc W (hA.below hb) (by omega)
    rw [hl] at this; exact this)
  have HAl' := Lib.hid (fun W (hb : Below w.heap.size w W) => show Calls Try.prog 24 #[vec A' n' c' off' k' inc'] W fun e w' => ∃ g c', e = .returned (vec (some ⟨g, 0, none⟩) n' c' off' k' inc') ∧ Own w' g l' ∧ W.heap.size ≤ g ∧ n' ≤ c' ∧ c' < 9223372036854775808 ∧ Below W.heap.size W w' from by
    have := ralone_any A' c' l' off' k' inc' W (hA'.below hb) (by omega)
    rw [hl'] at this; exact this)
  have HA := Lib.hid hA
  have HA' := Lib.hid hA'
  have Hl := Lib.hid hl
  have Hl' := Lib.hid hl'
  have HAll := Lib.hid (fun W (A B : Option Addr) (c d : Nat) (h1 : Row W A (f64s l)) (h2 : Row W B (f64s l)) => show Calls Try.prog 13 #[.slice A n c, .slice B n d] W fun e w' => e = .returned (.bool true) ∧ Below W.heap.size W w' from by
    have := rall_any A B c d l l W hW hW h1 h2 (by omega) (Alike.refl l)
    rw [hl] at this; exact this)
  have HAll' := Lib.hid (fun W (A B : Option Addr) (c d : Nat) (h1 : Row W A (f64s l')) (h2 : Row W B (f64s l')) => show Calls Try.prog 13 #[.slice A n' c, .slice B n' d] W fun e w' => e = .returned (.bool true) ∧ Below W.heap.size W w' from by
    have := rall_any A B c d l' l' W hW' hW' h1 h2 (by omega) (Alike.refl l')
    rw [hl'] at this; exact this)
  have HRx := Lib.hid (fun W => show Calls Try.prog 28 #[vec A n c off k inc] W fun e w' => e = .returned (.bool true) ∧ Below W.heap.size W w' from by
    have := rright_any A n c off k inc W (by omega) ho hk hi
    rw [hRX] at this; exact this)
  have HRy := Lib.hid (fun W => show Calls Try.prog 28 #[vec A' n' c' off' k' inc'] W fun e w' => e = .returned (.bool false) ∧ Below W.heap.size W w' from by
    have := rright_any A' n' c' off' k' inc' W (by omega) ho' hk' hi'
    rw [hRY] at this; exact this)
  have HDt := Lib.hid (fun W (g g' c c' : Nat) => show Calls Try.prog 25 #[vec (some ⟨g, 0, none⟩) n c off k inc, vec (some ⟨g', 0, none⟩) n' c' off' k' inc'] W fun e w' => e = .returned (.tuple #[.float .f64 0, .int .i64 1]) ∧ Below W.heap.size W w' from
    dot_err _ _ n c off k inc n' c' off' k' inc' W (by omega) (by omega) ho hk hi ho' hk' hi' 1 hP (by omega))
  obtain ⟨X, hX⟩ : ∃ X, lst l o i K = X := ⟨_, rfl⟩
  have hXl : X.length = K := by rw [← hX, lst_length]
  have hXw : Wds X := by rw [← hX]; exact wds_lst2 hW _ _ _
  have hoi : I64 o ∧ I64 i := by subst q1 q3; exact ⟨ho, hi⟩
  have HAs := Lib.hid (fun W (g c : Nat) (hO : Own W g l) => show Calls Try.prog 26 #[vec (some ⟨g, 0, none⟩) n c off k inc] W fun e w' => ∃ r, e = .returned (.tuple #[.float .f64 r, .int .i64 0]) ∧ Is r (asumF X K) ∧ Below W.heap.size W w' from by
    subst q1 q2 q3
    rw [← hX]
    exact asum_ok _ n c l o K i W hO.row hW hl (by omega) hr (by omega) (by first | exact hRX | (subst_vars; exact hRX)) hoi.1 hoi.2)
  have HMo := Lib.hid (fun W (g c : Nat) (hO : Own W g l) => show Calls Try.prog 27 #[vec (some ⟨g, 0, none⟩) n c off k inc] W fun e w' => e = .returned (.tuple #[.int .i64 (mostI X), .int .i64 0]) ∧ Below W.heap.size W w' from by
    subst q1 q2 q3
    rw [← hX]
    exact most_ok _ n c l o K i W hO.row hW hl (by omega) hr (by omega) (by first | exact hRX | (subst_vars; exact hRX)) hoi.1 hoi.2)
  have HLs := Lib.hid (fun W (hb : Below w.heap.size w W) => show Calls Try.prog 29 #[vec A n c off k inc] W fun e w' => ∃ B d, e = .returned (.slice B K d) ∧ Row w' B (f64s X) ∧ Below W.heap.size W w' from by
    subst q1 q2 q3
    rw [← hX]
    exact rlist_any A n c l o K i W (hA.below hb) hl (by omega) hr (by omega))
  have HrA := Lib.hid (fun W (B : Option Addr) (d : Nat) (hB : Row W B (f64s X)) => rasum_any B K d X W hB hXw hXl (by omega))
  have HrM := Lib.hid (fun W (B : Option Addr) (d : Nat) (hB : Row W B (f64s X)) => rmost_any B K d X W hB hXw hXl (by omega))
  clear hA hA' hW hW' hl hl' hn hn' hk60 hk60' ho hk hi ho' hk' hi' q1 q2 q3 hr hX hXl hXw hoi hP hRX hRY
  unfold vec at *
  go_enter Try.func5, Try.ntmps5
  have Ha0 := Lib.hid ((Blk.new w 45 #[.slice A n c, .int .i64 off, .int .i64 k, .int .i64 inc]).alloc (.cells #[.slice A' n' c', .int .i64 off', .int .i64 k', .int .i64 inc'] 45))
  have Hb0 := Lib.hid (Blk.new_ (w.alloc (.cells #[.slice A n c, .int .i64 off, .int .i64 k, .int .i64 inc] 45)) 45 #[.slice A' n' c', .int .i64 off', .int .i64 k', .int .i64 inc'] (w.heap.size + 1) (by simp))
  have HB0 := Lib.hid (((Below.refl w.heap.size w).alloc (Nat.le_refl _) (.cells #[.slice A n c, .int .i64 off, .int .i64 k, .int .i64 inc] 45)).alloc (by simp) (.cells #[.slice A' n' c', .int .i64 off', .int .i64 k', .int .i64 inc'] 45))
  go_wp2_with fail
  refine (awake5_any _).mono ?_
  rintro e w1 ⟨rfl, hb⟩
  have Ha1 := Lib.hid (Ha0.out.nxt hb)
  have Hb1 := Lib.hid (Hb0.out.nxt hb)
  have HB1 := Lib.hid (below_nx HB0.out hb)
  clear hb
  obtain ⟨a0, a1, a2, a3⟩ := cells4w Ha1.out
  obtain ⟨b0, b1, b2, b3⟩ := cells4w Hb1.out
  go_wp2_with fail
  refine (HLg.out _).mono ?_
  rintro e w2 ⟨rfl, hb⟩
  have Ha2 := Lib.hid (Ha1.out.nxt hb)
  have Hb2 := Lib.hid (Hb1.out.nxt hb)
  have HB2 := Lib.hid (below_nx HB1.out hb)
  clear hb
  clear a0 a1 a2 a3 b0 b1 b2 b3
  obtain ⟨a0, a1, a2, a3⟩ := cells4w Ha2.out
  obtain ⟨b0, b1, b2, b3⟩ := cells4w Hb2.out
  go_wp2_with fail
  refine (HLg'.out _).mono ?_
  rintro e w3 ⟨rfl, hb⟩
  have Ha3 := Lib.hid (Ha2.out.nxt hb)
  have Hb3 := Lib.hid (Hb2.out.nxt hb)
  have HB3 := Lib.hid (below_nx HB2.out hb)
  clear hb
  clear a0 a1 a2 a3 b0 b1 b2 b3
  obtain ⟨a0, a1, a2, a3⟩ := cells4w Ha3.out
  obtain ⟨b0, b1, b2, b3⟩ := cells4w Hb3.out
  go_wp2_with fail
  refine wp_region_inv [23, 24, 25, 26, 5, 6] (fun d s W => (d 0 = true → s 23 = .agg #[.slice A n c, .int .i64 off, .int .i64 k, .int .i64 inc]) ∧ (d 2 = true → s 25 = .agg #[.slice A' n' c', .int .i64 off', .int .i64 k', .int .i64 inc']) ∧ Twin w3.heap.size l l' (fun g c => .agg #[.slice (some ⟨g, 0, none⟩) n c, .int .i64 off, .int .i64 k, .int .i64 inc]) (fun g c => .agg #[.slice (some ⟨g, 0, none⟩) n' c, .int .i64 off', .int .i64 k', .int .i64 inc']) (d 1) (d 3) (s 24) (s 26) W ∧
    Two w3 45 #[.slice none 0 0, .int .i64 0, .int .i64 0, .int .i64 0] (cellsV (s 24)) (cellsV (s 26)) (d 4) (d 5) (d 6) (d 7) (s 5) (s 6) W ∧ (d 6 = true → d 4 = true ∧ d 1 = true) ∧ (d 7 = true → d 5 = true ∧ d 3 = true) ∧ (d 3 = true → d 1 = true))
    rfl (by kernel_rfl) ?_ ?_ ?_
  · exact ⟨by simp, by simp, fun h => by simp at h, ⟨(Below.refl _ _).drew, by simp, by simp, by simp⟩, by simp, by simp, by simp⟩
  · refine ⟨?_, ?_, ?_, ?_, ?_, ?_, ?_, ?_, trivial⟩
    all_goals
      intro d s W hJ hfr hd hdep
      simp only [List.mem_cons, forall_eq_or_imp, List.not_mem_nil, false_implies, implies_true, and_true, Region.binds] at hdep
      have f0 := hfr 2 (by decide)
      have f1 := hfr 3 (by decide)
      simp at f0 f1 hdep
      obtain ⟨h0, h2, hTw, hT, hx, hy, hv⟩ := hJ
      unfold OpSteps
    · have hW0 := below_nx HB3.out (hT.1)
      obtain ⟨p0, p1, p2, p3⟩ := cells4w (Ha3.out.below hT.1 Ha3.out.lt)
      simp [go_sem, evS, f0, p0, p1, p2, p3]
      exact ⟨fun _ => by simp [sput], fun h => by simpa [sput] using h2 (by simpa [did] using h), by simpa [sput, did] using hTw, by simpa [sput, did] using hT, fun h => by simpa [did] using hx (by simpa [did] using h), fun h => by simpa [did] using hy (by simpa [did] using h), fun h => by simpa [did] using hv (by simpa [did] using h)⟩
    · have g0 := h0 (by simpa using hdep)
      have hd3 : d 3 = false := by
        cases h : d 3
        · rfl
        · have := hv h; rw [hd] at this; cases this
      have hd6 : d 6 = false := by
        cases h : d 6
        · rfl
        · have := (hx h).2; rw [hd] at this; cases this
      simp [go_sem, evS, g0]
      refine (HAl.out W (below_nx HB3.out hT.1)).mono ?_
      rintro e W' ⟨g, c9, rfl, ho, hg, _, _, hb⟩
      refine ⟨_, rfl, ?_⟩
      have hT2 := hT.nxt hb
      rw [hd6] at hT2
      have hT2 := hT2.chg1 (a' := cellsV (.agg #[.slice (some ⟨g, 0, none⟩) n c9, .int .i64 off, .int .i64 k, .int .i64 inc]))
      have hTw2 := Twin.first (Z := w3.heap.size) (l := l) (l' := l') (f := (fun g c => .agg #[.slice (some ⟨g, 0, none⟩) n c, .int .i64 off, .int .i64 k, .int .i64 inc])) (f' := (fun g c => .agg #[.slice (some ⟨g, 0, none⟩) n' c, .int .i64 off', .int .i64 k', .int .i64 inc'])) (d3 := false) (vb := s 26) (c := c9) ho (Nat.le_trans hT.1.size hg) rfl
      exact ⟨fun h => by simpa [sput] using h0 (by simpa [did] using h), fun h => by simpa [sput] using h2 (by simpa [did] using h), by simpa [sput, did, hd3] using hTw2, by simpa [sput, did, hd6] using hT2, fun h => by simp [did, hd6] at h, fun h => by simpa [did] using hy (by simpa [did] using h), fun h => by simp [did]⟩
    · obtain ⟨p0, p1, p2, p3⟩ := cells4w (Hb3.out.below hT.1 Hb3.out.lt)
      simp [go_sem, evS, f1, p0, p1, p2, p3]
      exact ⟨fun h => by simpa [sput] using h0 (by simpa [did] using h), fun _ => by simp [sput], by simpa [sput, did] using hTw, by simpa [sput, did] using hT, fun h => by simpa [did] using hx (by simpa [did] using h), fun h => by simpa [did] using hy (by simpa [did] using h), fun h => by simpa [did] using hv (by simpa [did] using h)⟩
    · have g0 := h2 (by simpa using hdep.1)
      have hd1 : d 1 = true := by simpa using hdep.2
      have hd7 : d 7 = false := by
        cases h : d 7
        · rfl
        · have := (hy h).2; rw [hd] at this; cases this
      simp [go_sem, evS, g0]
      refine (HAl'.out W (below_nx HB3.out hT.1)).mono ?_
      rintro e W' ⟨g, c9, rfl, ho, hg, _, _, hb⟩
      refine ⟨_, rfl, ?_⟩
      have hT2 := hT.nxt hb
      rw [hd7] at hT2
      have hT2 := hT2.chg2 (b' := cellsV (.agg #[.slice (some ⟨g, 0, none⟩) n' c9, .int .i64 off', .int .i64 k', .int .i64 inc']))
      rw [hd1, hd] at hTw
      have hTw2 := hTw.second hb (c' := c9) ho (Nat.le_trans hT.1.size hg) hg
      exact ⟨fun h => by simpa [sput] using h0 (by simpa [did] using h), fun h => by simpa [sput] using h2 (by simpa [did] using h), by simpa [sput, did, hd1] using hTw2, by simpa [sput, did, hd7] using hT2, fun h => by simpa [did] using hx (by simpa [did] using h), fun h => by simp [did, hd7] at h, fun h => by simpa [did] using hd1⟩
    · have hd6 : d 6 = false := by
        cases h : d 6
        · rfl
        · have := (hx h).1; rw [hd] at this; cases this
      rw [hd, hd6] at hT
      have hT2 := hT.alloc1
      have hTw2 := hTw.nxt (below_one (W := W) (o := .cells #[.slice none 0 0, .int .i64 0, .int .i64 0, .int .i64 0] 45))
      simp [go_sem, evS]
      exact ⟨fun h => by simpa [sput] using h0 (by simpa [did] using h), fun h => by simpa [sput] using h2 (by simpa [did] using h), by simpa [sput, did] using hTw2, by simpa [sput, did, hd6] using hT2, fun h => by simp [did, hd6] at h, fun h => by simpa [did] using hy (by simpa [did] using h), fun h => by simpa [did] using hv (by simpa [did] using h)⟩
    · have hd7 : d 7 = false := by
        cases h : d 7
        · rfl
        · have := (hy h).1; rw [hd] at this; cases this
      rw [hd, hd7] at hT
      have hT2 := hT.alloc2
      have hTw2 := hTw.nxt (below_one (W := W) (o := .cells #[.slice none 0 0, .int .i64 0, .int .i64 0, .int .i64 0] 45))
      simp [go_sem, evS]
      exact ⟨fun h => by simpa [sput] using h0 (by simpa [did] using h), fun h => by simpa [sput] using h2 (by simpa [did] using h), by simpa [sput, did] using hTw2, by simpa [sput, did, hd7] using hT2, fun h => by simpa [did] using hx (by simpa [did] using h), fun h => by simp [did, hd7] at h, fun h => by simpa [did] using hv (by simpa [did] using h)⟩

    · have e4 : d 4 = true := by simp [hdep]
      have e1 : d 1 = true := by simp [hdep]
      have hTw0 := hTw
      obtain ⟨gg, cc, hva, hO1, hZ1, hrest⟩ := hTw e1
      rw [hd, e4] at hT
      obtain ⟨p, hp, hp2, hpB⟩ := hT.2.1 rfl
      simp only [Bool.false_eq_true, if_false] at hpB
      obtain ⟨r0, r1, r2, r3⟩ := cells4w hpB
      obtain ⟨q0, q1, q2, q3⟩ := frozen4w hpB
      rw [hp] at hT
      have hfar : ∀ k9, k9 ≠ p → _ := fun k9 (hk9 : k9 ≠ p) => heap_sets4 (w := W) hk9 (.slice (some ⟨gg, 0, none⟩) n cc) (.int .i64 off) (.int .i64 k) (.int .i64 inc)
      have hst := hpB.store4v (.slice (some ⟨gg, 0, none⟩) n cc) (.int .i64 off) (.int .i64 k) (.int .i64 inc)
      have hT2 := hT.store1 (W' := ((((W.setCell ⟨p, 0, none⟩ (.slice (some ⟨gg, 0, none⟩) n cc)).setCell ⟨p, 1, none⟩ (.int .i64 off)).setCell ⟨p, 2, none⟩ (.int .i64 k)).setCell ⟨p, 3, none⟩ (.int .i64 inc))) hfar (by rw [hva]; exact hst) (rest_sets4 _ _ _ _ _ _ _ _ _)
      have hTw2 := hTw0.far hpB (by decide) hfar
      simp [go_sem, evS, hp, hva, r0, r1, r2, r3, q0, q1, q2, q3]
      exact ⟨fun h => by simpa [sput] using h0 (by simpa [did] using h), fun h => by simpa [sput] using h2 (by simpa [did] using h), by simpa [sput, did] using hTw2, by simpa [sput, did, hp, e4] using hT2, fun _ => by simp [did, e4, e1], fun h => by simpa [did] using hy (by simpa [did] using h), fun h => by simpa [did] using hv (by simpa [did] using h)⟩

    · have e5 : d 5 = true := by simp [hdep]
      have e1 : d 3 = true := by simp [hdep]
      have hTw0 := hTw
      obtain ⟨gg0, cc0, hva0, hO1, hZ1, hrest⟩ := hTw (hv e1)
      obtain ⟨gg, cc, hva, hO2, hZ2, hne2⟩ := hrest e1
      rw [hd, e5] at hT
      obtain ⟨p, hp, hp2, hpB⟩ := hT.2.2.1 rfl
      simp only [Bool.false_eq_true, if_false] at hpB
      obtain ⟨r0, r1, r2, r3⟩ := cells4w hpB
      obtain ⟨q0, q1, q2, q3⟩ := frozen4w hpB
      rw [hp] at hT
      have hfar : ∀ k9, k9 ≠ p → _ := fun k9 (hk9 : k9 ≠ p) => heap_sets4 (w := W) hk9 (.slice (some ⟨gg, 0, none⟩) n' cc) (.int .i64 off') (.int .i64 k') (.int .i64 inc')
      have hst := hpB.store4v (.slice (some ⟨gg, 0, none⟩) n' cc) (.int .i64 off') (.int .i64 k') (.int .i64 inc')
      have hT2 := hT.store2 (W' := ((((W.setCell ⟨p, 0, none⟩ (.slice (some ⟨gg, 0, none⟩) n' cc)).setCell ⟨p, 1, none⟩ (.int .i64 off')).setCell ⟨p, 2, none⟩ (.int .i64 k')).setCell ⟨p, 3, none⟩ (.int .i64 inc'))) hfar (by rw [hva]; exact hst) (rest_sets4 _ _ _ _ _ _ _ _ _)
      have hTw2 := hTw0.far hpB (by decide) hfar
      simp [go_sem, evS, hp, hva, r0, r1, r2, r3, q0, q1, q2, q3]
      exact ⟨fun h => by simpa [sput] using h0 (by simpa [did] using h), fun h => by simpa [sput] using h2 (by simpa [did] using h), by simpa [sput, did] using hTw2, by simpa [sput, did, hp, e5] using hT2, fun h => by simpa [did] using hx (by simpa [did] using h), fun _ => by simp [did, e5, e1], fun h => by simpa [did] using hv (by simpa [did] using h)⟩

  intro d s W hJ hd
  obtain ⟨_, _, hTw, hT, _, _, _⟩ := hJ
  obtain ⟨g1, c1, hsA, hO1, hZ1, hrest⟩ := hTw (hd 1 (by decide))
  obtain ⟨g2, c2, hsB, hO2, hZ2, hg12⟩ := hrest (hd 3 (by decide))
  obtain ⟨hb, hp, hq, hne⟩ := hT
  obtain ⟨p, hp, hp2, hpB⟩ := hp (hd 4 (by decide))
  obtain ⟨q, hq, hq2, hqB⟩ := hq (hd 5 (by decide))
  have hpq := hne (hd 4 (by decide)) (hd 5 (by decide))
  rw [hd 6 (by decide), hsA] at hpB
  rw [hd 7 (by decide), hsB] at hqB
  rw [hp, hq] at hpq
  have hpq2 : p ≠ q := fun e => hpq (by rw [e])
  simp only [if_true, cellsV] at hpB hqB
  clear hne hTw hrest hpq hd
  simp [setAll, hp, hq]
  clear hp hq hsA hsB
  generalize s 23 = s26
  generalize s 24 = s27
  generalize s 25 = s28
  generalize s 26 = s29
  have hlt3 := Hb3.out.lt
  have Ha4 := Lib.hid (Ha3.out.below hb Ha3.out.lt)
  have Hb4 := Lib.hid (Hb3.out.below hb Hb3.out.lt)
  have Hx4 := Lib.hid hpB
  have Hy4 := Lib.hid hqB
  have Hu4 := Lib.hid hO1
  have Hv4 := Lib.hid hO2
  have HB4 := Lib.hid (below_nx HB3.out hb)
  have Hg12 := Lib.hid hg12
  have HZs := Lib.hid (show w.heap.size + 1 < g1 ∧ w.heap.size + 1 < g2 ∧ w.heap.size + 1 < p ∧ w.heap.size + 1 < q by omega)
  have Hpq := Lib.hid hpq2
  clear hpB hqB hO1 hO2 hb hg12 hpq2 hZ1 hZ2 hp2 hq2 hlt3
  clear a0 a1 a2 a3 b0 b1 b2 b3
  obtain ⟨a0, a1, a2, a3⟩ := cells4w Ha4.out
  obtain ⟨b0, b1, b2, b3⟩ := cells4w Hb4.out
  obtain ⟨x0, x1, x2, x3⟩ := cells4w Hx4.out
  obtain ⟨y0, y1, y2, y3⟩ := cells4w Hy4.out
  go_wp2_with fail
  refine (HDt.out _ _ _ _ _).mono ?_
  rintro e w5 ⟨rfl, hb⟩
  have Ha5 := Lib.hid (Ha4.out.nxt hb)
  have Hb5 := Lib.hid (Hb4.out.nxt hb)
  have Hx5 := Lib.hid (Hx4.out.nxt hb)
  have Hy5 := Lib.hid (Hy4.out.nxt hb)
  have Hu5 := Lib.hid (Hu4.out.nxt hb)
  have Hv5 := Lib.hid (Hv4.out.nxt hb)
  have HB5 := Lib.hid (below_nx HB4.out hb)
  clear hb
  clear a0 a1 a2 a3 b0 b1 b2 b3 x0 x1 x2 x3 y0 y1 y2 y3
  obtain ⟨a0, a1, a2, a3⟩ := cells4w Ha5.out
  obtain ⟨b0, b1, b2, b3⟩ := cells4w Hb5.out
  obtain ⟨x0, x1, x2, x3⟩ := cells4w Hx5.out
  obtain ⟨y0, y1, y2, y3⟩ := cells4w Hy5.out
  go_wp2_with fail
  refine (HAs.out _ _ _ Hu5.out).mono ?_
  rintro e w6 ⟨r1, rfl, hr1, hb⟩
  have Ha6 := Lib.hid (Ha5.out.nxt hb)
  have Hb6 := Lib.hid (Hb5.out.nxt hb)
  have Hx6 := Lib.hid (Hx5.out.nxt hb)
  have Hy6 := Lib.hid (Hy5.out.nxt hb)
  have Hu6 := Lib.hid (Hu5.out.nxt hb)
  have Hv6 := Lib.hid (Hv5.out.nxt hb)
  have HB6 := Lib.hid (below_nx HB5.out hb)
  clear hb
  clear a0 a1 a2 a3 b0 b1 b2 b3 x0 x1 x2 x3 y0 y1 y2 y3
  obtain ⟨a0, a1, a2, a3⟩ := cells4w Ha6.out
  obtain ⟨b0, b1, b2, b3⟩ := cells4w Hb6.out
  obtain ⟨x0, x1, x2, x3⟩ := cells4w Hx6.out
  obtain ⟨y0, y1, y2, y3⟩ := cells4w Hy6.out
  go_wp2_with fail
  have HR1 := Lib.hid hr1
  clear hr1
  refine (HMo.out _ _ _ Hu6.out).mono ?_
  rintro e w7 ⟨rfl, hb⟩
  have Ha7 := Lib.hid (Ha6.out.nxt hb)
  have Hb7 := Lib.hid (Hb6.out.nxt hb)
  have Hx7 := Lib.hid (Hx6.out.nxt hb)
  have Hy7 := Lib.hid (Hy6.out.nxt hb)
  have Hu7 := Lib.hid (Hu6.out.nxt hb)
  have Hv7 := Lib.hid (Hv6.out.nxt hb)
  have HB7 := Lib.hid (below_nx HB6.out hb)
  clear hb
  clear a0 a1 a2 a3 b0 b1 b2 b3 x0 x1 x2 x3 y0 y1 y2 y3
  obtain ⟨a0, a1, a2, a3⟩ := cells4w Ha7.out
  obtain ⟨b0, b1, b2, b3⟩ := cells4w Hb7.out
  obtain ⟨x0, x1, x2, x3⟩ := cells4w Hx7.out
  obtain ⟨y0, y1, y2, y3⟩ := cells4w Hy7.out
  go_wp2_with fail
  refine (HAll.out _ _ _ _ _ Hu7.out.row (HA.out.below HB7.out)).mono ?_
  rintro e w8 ⟨rfl, hb⟩
  have Ha8 := Lib.hid (Ha7.out.nxt hb)
  have Hb8 := Lib.hid (Hb7.out.nxt hb)
  have Hx8 := Lib.hid (Hx7.out.nxt hb)
  have Hy8 := Lib.hid (Hy7.out.nxt hb)
  have Hu8 := Lib.hid (Hu7.out.nxt hb)
  have Hv8 := Lib.hid (Hv7.out.nxt hb)
  have HB8 := Lib.hid (below_nx HB7.out hb)
  clear hb
  clear a0 a1 a2 a3 b0 b1 b2 b3 x0 x1 x2 x3 y0 y1 y2 y3
  obtain ⟨a0, a1, a2, a3⟩ := cells4w Ha8.out
  obtain ⟨b0, b1, b2, b3⟩ := cells4w Hb8.out
  obtain ⟨x0, x1, x2, x3⟩ := cells4w Hx8.out
  obtain ⟨y0, y1, y2, y3⟩ := cells4w Hy8.out
  go_wp2_with fail
  refine (HAll'.out _ _ _ _ _ Hv8.out.row (HA'.out.below HB8.out)).mono ?_
  rintro e w9 ⟨rfl, hb⟩
  have Ha9 := Lib.hid (Ha8.out.nxt hb)
  have Hb9 := Lib.hid (Hb8.out.nxt hb)
  have Hx9 := Lib.hid (Hx8.out.nxt hb)
  have Hy9 := Lib.hid (Hy8.out.nxt hb)
  have Hu9 := Lib.hid (Hu8.out.nxt hb)
  have Hv9 := Lib.hid (Hv8.out.nxt hb)
  have HB9 := Lib.hid (below_nx HB8.out hb)
  clear hb
  clear a0 a1 a2 a3 b0 b1 b2 b3 x0 x1 x2 x3 y0 y1 y2 y3
  obtain ⟨a0, a1, a2, a3⟩ := cells4w Ha9.out
  obtain ⟨b0, b1, b2, b3⟩ := cells4w Hb9.out
  obtain ⟨x0, x1, x2, x3⟩ := cells4w Hx9.out
  obtain ⟨y0, y1, y2, y3⟩ := cells4w Hy9.out
  go_wp2_with fail
  refine (HRx.out _).mono ?_
  rintro e w10 ⟨rfl, hb⟩
  have Ha10 := Lib.hid (Ha9.out.nxt hb)
  have Hb10 := Lib.hid (Hb9.out.nxt hb)
  have Hx10 := Lib.hid (Hx9.out.nxt hb)
  have Hy10 := Lib.hid (Hy9.out.nxt hb)
  have Hu10 := Lib.hid (Hu9.out.nxt hb)
  have Hv10 := Lib.hid (Hv9.out.nxt hb)
  have HB10 := Lib.hid (below_nx HB9.out hb)
  clear hb
  clear a0 a1 a2 a3 b0 b1 b2 b3 x0 x1 x2 x3 y0 y1 y2 y3
  obtain ⟨a0, a1, a2, a3⟩ := cells4w Ha10.out
  obtain ⟨b0, b1, b2, b3⟩ := cells4w Hb10.out
  obtain ⟨x0, x1, x2, x3⟩ := cells4w Hx10.out
  obtain ⟨y0, y1, y2, y3⟩ := cells4w Hy10.out
  go_wp2_with fail
  refine (HLs.out _ HB10.out).mono ?_
  rintro e w11 ⟨LA, dA, rfl, hLA, hb⟩
  have Ha11 := Lib.hid (Ha10.out.nxt hb)
  have Hb11 := Lib.hid (Hb10.out.nxt hb)
  have Hx11 := Lib.hid (Hx10.out.nxt hb)
  have Hy11 := Lib.hid (Hy10.out.nxt hb)
  have Hu11 := Lib.hid (Hu10.out.nxt hb)
  have Hv11 := Lib.hid (Hv10.out.nxt hb)
  have HB11 := Lib.hid (below_nx HB10.out hb)
  clear hb
  clear a0 a1 a2 a3 b0 b1 b2 b3 x0 x1 x2 x3 y0 y1 y2 y3
  obtain ⟨a0, a1, a2, a3⟩ := cells4w Ha11.out
  obtain ⟨b0, b1, b2, b3⟩ := cells4w Hb11.out
  obtain ⟨x0, x1, x2, x3⟩ := cells4w Hx11.out
  obtain ⟨y0, y1, y2, y3⟩ := cells4w Hy11.out
  go_wp2_with fail
  have HL1 := Lib.hid hLA
  clear hLA
  refine (HrA.out _ _ _ HL1.out).mono ?_
  rintro e w12 ⟨r2, rfl, hr2, hb⟩
  have HL2 := Lib.hid (HL1.out.below hb)
  have HR2 := Lib.hid hr2
  clear hr2
  have Ha12 := Lib.hid (Ha11.out.nxt hb)
  have Hb12 := Lib.hid (Hb11.out.nxt hb)
  have Hx12 := Lib.hid (Hx11.out.nxt hb)
  have Hy12 := Lib.hid (Hy11.out.nxt hb)
  have Hu12 := Lib.hid (Hu11.out.nxt hb)
  have Hv12 := Lib.hid (Hv11.out.nxt hb)
  have HB12 := Lib.hid (below_nx HB11.out hb)
  clear hb
  clear a0 a1 a2 a3 b0 b1 b2 b3 x0 x1 x2 x3 y0 y1 y2 y3
  obtain ⟨a0, a1, a2, a3⟩ := cells4w Ha12.out
  obtain ⟨b0, b1, b2, b3⟩ := cells4w Hb12.out
  obtain ⟨x0, x1, x2, x3⟩ := cells4w Hx12.out
  obtain ⟨y0, y1, y2, y3⟩ := cells4w Hy12.out
  go_wp2_with fail
  refine (rsame_v r1 r2 _ HR1.out.lt HR2.out.lt).mono ?_
  rw [HR1.out.same HR2.out]
  rintro e w13 ⟨rfl, rfl⟩
  go_wp2_with fail
  refine (HrM.out _ _ _ HL2.out).mono ?_
  rintro e w14 ⟨rfl, hb⟩
  have HL3 := Lib.hid (HL2.out.below hb)
  have Ha13 := Lib.hid (Ha12.out.nxt hb)
  have Hb13 := Lib.hid (Hb12.out.nxt hb)
  have Hx13 := Lib.hid (Hx12.out.nxt hb)
  have Hy13 := Lib.hid (Hy12.out.nxt hb)
  have Hu13 := Lib.hid (Hu12.out.nxt hb)
  have Hv13 := Lib.hid (Hv12.out.nxt hb)
  have HB13 := Lib.hid (below_nx HB12.out hb)
  clear hb
  clear a0 a1 a2 a3 b0 b1 b2 b3 x0 x1 x2 x3 y0 y1 y2 y3
  obtain ⟨a0, a1, a2, a3⟩ := cells4w Ha13.out
  obtain ⟨b0, b1, b2, b3⟩ := cells4w Hb13.out
  obtain ⟨x0, x1, x2, x3⟩ := cells4w Hx13.out
  obtain ⟨y0, y1, y2, y3⟩ := cells4w Hy13.out
  go_wp2_with fail
  refine (HRy.out _).mono ?_
  rintro e w15 ⟨rfl, hb⟩
  have HL3b := Lib.hid (HL3.out.below hb)
  have Ha14 := Lib.hid (Ha13.out.nxt hb)
  have Hb14 := Lib.hid (Hb13.out.nxt hb)
  have Hx14 := Lib.hid (Hx13.out.nxt hb)
  have Hy14 := Lib.hid (Hy13.out.nxt hb)
  have Hu14 := Lib.hid (Hu13.out.nxt hb)
  have Hv14 := Lib.hid (Hv13.out.nxt hb)
  have HB14 := Lib.hid (below_nx HB13.out hb)
  clear hb
  clear a0 a1 a2 a3 b0 b1 b2 b3 x0 x1 x2 x3 y0 y1 y2 y3
  obtain ⟨a0, a1, a2, a3⟩ := cells4w Ha14.out
  obtain ⟨b0, b1, b2, b3⟩ := cells4w Hb14.out
  obtain ⟨x0, x1, x2, x3⟩ := cells4w Hx14.out
  obtain ⟨y0, y1, y2, y3⟩ := cells4w Hy14.out
  go_wp2_with fail
  refine (awake5_any _).mono ?_
  rintro e w16 ⟨rfl, hb⟩
  have Ha15 := Lib.hid (Ha14.out.nxt hb)
  have Hb15 := Lib.hid (Hb14.out.nxt hb)
  have Hx15 := Lib.hid (Hx14.out.nxt hb)
  have Hy15 := Lib.hid (Hy14.out.nxt hb)
  have Hu15 := Lib.hid (Hu14.out.nxt hb)
  have Hv15 := Lib.hid (Hv14.out.nxt hb)
  have HB15 := Lib.hid (below_nx HB14.out hb)
  clear hb
  clear a0 a1 a2 a3 b0 b1 b2 b3 x0 x1 x2 x3 y0 y1 y2 y3
  obtain ⟨a0, a1, a2, a3⟩ := cells4w Ha15.out
  obtain ⟨b0, b1, b2, b3⟩ := cells4w Hb15.out
  obtain ⟨x0, x1, x2, x3⟩ := cells4w Hx15.out
  obtain ⟨y0, y1, y2, y3⟩ := cells4w Hy15.out
  go_wp2_with fail
  go_ret
  exact ⟨rfl, HB15.out⟩
end Go.Proofs.Ytamndbeffbcppaa
