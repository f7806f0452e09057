/-
MoveRows, walked. Conditions: as each says.
-/
import Derived.Test.YtamndbeffbcppaaMwD
set_option linter.unusedVariables false
set_option linter.unusedSimpArgs false
set_option linter.unnecessarySimpa false
namespace Go.Proofs.Ytamndbeffbcppaa
open Go.RowKit
attribute [local go_sem ↓] Go.wp_at_zero Go.wp_at_succ


set_option maxRecDepth 100000 in
set_option maxHeartbeats 4000000 in
theorem moveRows_n1 (A : Option Addr) (n c : Nat) (l : List Nat) (o R C L N : Nat) (j1 j2 : Int) (B : Option Addr) (m dz : Nat) (zs : List Int) (w : World) (E1 E2 : Int) (F1 F2 : List Nat → Prop) (G1 G2 : List Nat → List Nat → Prop) (hgr : greatB n R C = false) (hgd : matB n o R C L = true) (hA : Row w A (f64s l)) (hW : Wds l) (hl : l.length = n) (hn : n ≤ 1000) (hb : o < 9223372036854775808 ∧ R ≤ 20 ∧ C ≤ 20 ∧ L < 9223372036854775808) (hN : R * C = N) (hL : 1 ≤ L) (hR : R ≤ L) (hr : R = 0 ∨ C = 0 ∨ o + (C - 1) * L + (R - 1) < n) (hB : Row w B (i64s zs)) (hm100 : ¬ (100 : Int) < (m : Int))
    (HRw : Hid (∀ W g c, Own W g l → Calls Try.prog 10 #[mat (some ⟨g, 0, none⟩) n c o R C L, .int .i64 j1, .int .i64 j2] W fun e w' => e = .returned (.int .i64 E1) ∧ ∃ l', Own w' g l' ∧ F1 l' ∧ Chg [g] W w'))
    (HTk : Hid (∀ W g c, Own W g l → Row W B (i64s zs) → w.heap.size ≤ g → Calls Try.prog 11 #[mat (some ⟨g, 0, none⟩) n c o R C L, .slice B m dz] W fun e w' => e = .returned (.int .i64 E2) ∧ ∃ l', Own w' g l' ∧ F2 l' ∧ Chg [g] W w')) (hE1 : E1 = 1) (i1 : ¬ (0 : Int) ≤ j1)
    (hG1 : ∀ T T', G1 T T' ↔ T' = T) (HrT : Hid (∀ W g T, Tab l o R C L N T → Blk W g 48 (f64s T).toArray → Row W B (i64s zs) → w.heap.size ≤ g → Calls Try.prog 16 #[tbl R C g N N, .slice B m dz] W fun e w' => e = .returned (.int .i64 E2) ∧ ∃ T', Blk w' g 48 (f64s T').toArray ∧ G2 T T' ∧ Chg [g] W w'))
    (HF1 : Hid (∀ x, F1 x → Wds x ∧ x.length = n)) (HF2 : Hid (∀ x, F2 x → Wds x ∧ x.length = n)) (HT1 : Hid (∀ T T', Tab l o R C L N T → G1 T T' → T'.length = N)) (HT2 : Hid (∀ T T', Tab l o R C L N T → G2 T T' → T'.length = N))
    (HE1 : Hid (∀ T T' x y, Tab l o R C L N T → G1 T T' → F1 x → Img l o R C L (fun a b => T'.getD (a * C + b) 0) y → x = y)) (HE2 : Hid (∀ T T' x y, Tab l o R C L N T → G2 T T' → F2 x → Img l o R C L (fun a b => T'.getD (a * C + b) 0) y → x = y)) :
    Calls Try.prog 3 #[mat A n c o R C L, .int .i64 j1, .int .i64 j2, .slice B m dz] w fun e w' => e = .returned (.bool true) ∧ Below w.heap.size w w' := by
  have hNb : N ≤ 400 := by
    have h1 : R * C ≤ 20 * 20 := Nat.mul_le_mul hb.2.1 hb.2.2.1
    omega
  have HGr := Lib.hid (fun W => great_any A n c o R C L W)
  rw [hgr] at HGr
  have HAp := Lib.hid (fun W (hb : Below w.heap.size w W) => show Calls Try.prog 9 #[mat A n c o R C L] W fun e w' => ∃ g c', e = .returned (mat (some ⟨g, 0, none⟩) n c' o R C L) ∧ OwnS w' (fun cs => cs.toList.take l.length = f64s l) g ∧ W.heap.size ≤ g ∧ Below W.heap.size W w' from by
    refine Calls.mono (show Calls Try.prog 9 #[mat A n c o R C L] W _ from by
      have := rapart_any A c l o R C L W (hA.below hb) (by omega)
      rw [hl] at this; exact this) ?_
    rintro e w' ⟨g, c', h1, h2, h3, _, _, h4⟩
    exact ⟨g, c', h1, h2, h3, h4⟩)
  have HGd := Lib.hid (fun W => show Calls Try.prog 12 #[mat A n c o R C L] W fun e w' => e = .returned (.bool true) ∧ Below W.heap.size W w' from by
    have := rgood_any A n c o R C L W (by omega) (by unfold I64; omega) (by unfold I64; omega) (by unfold I64; omega) (by unfold I64; omega)
    rw [hgd] at this; exact this)
  have HAll := Lib.hid (fun W (x : List Nat) (A B : Option Addr) (c d : Nat) (hx : Wds x ∧ x.length = n) (h1 : Row W A (f64s x)) (h2 : Row W B (f64s x)) => show Calls Try.prog 13 #[.slice A n c, .slice B n d] W fun e w' => e = .returned (.bool true) ∧ Below W.heap.size W w' from by
    have := rall_any A B c d x x W hx.1 hx.1 h1 h2 (by omega) (Alike.refl x)
    rw [hx.2] at this; exact this)
  have HA := Lib.hid hA
  have HBz := Lib.hid hB
  have Hm100 := Lib.hid hm100

  have HOf := Lib.hid (fun W (hb' : Below w.heap.size w W) => show Calls Try.prog 14 #[mat A n c o R C L] W fun e w' => ∃ g c', e = .returned (tbl R C g N (N + 0 * c')) ∧ OwnS w' (fun cs => ∃ T, cs = (f64s T).toArray ∧ Tab l o R C L N T) g ∧ W.heap.size ≤ g ∧ Below W.heap.size W w' from by
    refine (rof_blk A n c l o R C L N W (hA.below hb') hl (by omega) hN (by omega) (by omega) (by omega) hr).mono ?_
    rintro e w' ⟨g, T, h1, h2, h3, h4, h5⟩
    exact ⟨g, 0, by rw [h1, Nat.zero_mul, Nat.add_zero], ⟨_, h3, T, rfl, h2⟩, h4, h5⟩)
  have HIn := Lib.hid (fun W (hb' : Below w.heap.size w W) gT (T' : List Nat) (hT' : T'.length = N) (hB' : Row W (some ⟨gT, 0, none⟩) (f64s T')) (hlt : gT < W.heap.size) => rinto_any A n c l o R C L gT N N T' W (hA.below hb') hB' hl (by omega) hT' hN (by omega) (by omega) (by omega) (fun _ => hlt) hL hR hr)

  have HG1 := Lib.hid hG1
  have HN0 : N + 0 * 0 = N := by omega
  clear hgr hgd hA hW hl hn hb hNb hN hL hR hr hB hG1
  unfold tbl at *
  unfold mat at *
  go_enter Try.func3, Try.ntmps3
  have Ha0 := Lib.hid (Blk.new w 24 #[.slice A n c, .int .i64 o, .int .i64 R, .int .i64 C, .int .i64 L])
  have HB0 := Lib.hid ((Below.refl w.heap.size w).alloc (Nat.le_refl _) (.cells #[.slice A n c, .int .i64 o, .int .i64 R, .int .i64 C, .int .i64 L] 24))
  go_wp2_with fail
  refine (awake4_any _).mono ?_
  rintro e w1 ⟨rfl, hb⟩
  have Ha1 := Lib.hid (Ha0.out.nxt hb)
  have HB1 := Lib.hid (below_nx HB0.out hb)
  clear hb
  obtain ⟨a0, a1, a2, a3, a4⟩ := cells5 Ha1.out
  go_wp2_with fail
  refine (HGr.out _).mono ?_
  rintro e w2 ⟨rfl, hb⟩
  have Ha2 := Lib.hid (Ha1.out.nxt hb)
  have HB2 := Lib.hid (below_nx HB1.out hb)
  clear hb
  clear a0 a1 a2 a3 a4
  obtain ⟨a0, a1, a2, a3, a4⟩ := cells5 Ha2.out
  go_wp2_with fail
  refine wp_region_inv [27, 28, 29, 30, 9, 10] (fun d s W => (d 0 = true → s 27 = .agg #[.slice A n c, .int .i64 o, .int .i64 R, .int .i64 C, .int .i64 L]) ∧ (d 2 = true → s 29 = .agg #[.slice A n c, .int .i64 o, .int .i64 R, .int .i64 C, .int .i64 L]) ∧ Twn w2.heap.size (fun cs => cs.toList.take l.length = f64s l) (fun cs => cs.toList.take l.length = f64s l) (fun g c => .agg #[.slice (some ⟨g, 0, none⟩) n c, .int .i64 o, .int .i64 R, .int .i64 C, .int .i64 L]) (fun g c => .agg #[.slice (some ⟨g, 0, none⟩) n c, .int .i64 o, .int .i64 R, .int .i64 C, .int .i64 L]) (d 1) (d 3) (s 28) (s 30) W ∧
    Two w2 24 #[.slice none 0 0, .int .i64 0, .int .i64 0, .int .i64 0, .int .i64 0] (cellsV (s 28)) (cellsV (s 30)) (d 4) (d 5) (d 6) (d 7) (s 9) (s 10) W ∧ (d 6 = true → d 4 = true ∧ d 1 = true) ∧ (d 7 = true → d 5 = true ∧ d 3 = true) ∧ (d 3 = true → d 1 = true))
    rfl (by kernel_rfl) ?_ ?_ ?_
  · exact ⟨by simp, by simp, fun h => by simp at h, ⟨(Below.refl _ _).drew, by simp, by simp, by simp⟩, by simp, by simp, by simp⟩
  · refine ⟨?_, ?_, ?_, ?_, ?_, ?_, ?_, ?_, trivial⟩
    all_goals
      intro d s W hJ hfr hd hdep
      simp only [List.mem_cons, forall_eq_or_imp, List.not_mem_nil, false_implies, implies_true, and_true, Region.binds] at hdep
      have f0 := hfr 4 (by decide)
      have f1 := hfr 4 (by decide)
      simp at f0 f1 hdep
      obtain ⟨h0, h2, hTw, hT, hx, hy, hv⟩ := hJ
      unfold OpSteps
    · obtain ⟨p0, p1, p2, p3, p4⟩ := cells5 (Ha2.out.below hT.1 Ha2.out.lt)
      simp [go_sem, evS, f0, p0, p1, p2, p3, p4]
      exact ⟨fun _ => by simp [sput], fun h => by simpa [sput] using h2 (by simpa [did] using h), by simpa [sput, did] using hTw, by simpa [sput, did] using hT, fun h => by simpa [did] using hx (by simpa [did] using h), fun h => by simpa [did] using hy (by simpa [did] using h), fun h => by simpa [did] using hv (by simpa [did] using h)⟩
    · have g0 := h0 (by simpa using hdep)
      have hd3 : d 3 = false := by
        cases h : d 3
        · rfl
        · have := hv h; rw [hd] at this; cases this
      have hd6 : d 6 = false := by
        cases h : d 6
        · rfl
        · have := (hx h).2; rw [hd] at this; cases this
      simp [go_sem, evS, g0]
      refine (HAp.out W (below_nx HB2.out hT.1)).mono ?_
      rintro e W' ⟨g, c9, rfl, ho, hg, hb⟩
      refine ⟨_, rfl, ?_⟩
      have hT2 := hT.nxt hb
      rw [hd6] at hT2
      have hT2 := hT2.chg1 (a' := cellsV (.agg #[.slice (some ⟨g, 0, none⟩) n c9, .int .i64 o, .int .i64 R, .int .i64 C, .int .i64 L]))
      have hTw2 := Twn.first (Z := w2.heap.size) (S := (fun cs => cs.toList.take l.length = f64s l)) (S' := (fun cs => cs.toList.take l.length = f64s l)) (f := (fun g c => .agg #[.slice (some ⟨g, 0, none⟩) n c, .int .i64 o, .int .i64 R, .int .i64 C, .int .i64 L])) (f' := (fun g c => .agg #[.slice (some ⟨g, 0, none⟩) n c, .int .i64 o, .int .i64 R, .int .i64 C, .int .i64 L])) (d3 := false) (vb := s 30) (c := c9) ho (Nat.le_trans hT.1.size hg) rfl
      exact ⟨fun h => by simpa [sput] using h0 (by simpa [did] using h), fun h => by simpa [sput] using h2 (by simpa [did] using h), by simpa [sput, did, hd3] using hTw2, by simpa [sput, did, hd6] using hT2, fun h => by simp [did, hd6] at h, fun h => by simpa [did] using hy (by simpa [did] using h), fun h => by simp [did]⟩
    · obtain ⟨p0, p1, p2, p3, p4⟩ := cells5 (Ha2.out.below hT.1 Ha2.out.lt)
      simp [go_sem, evS, f1, p0, p1, p2, p3, p4]
      exact ⟨fun h => by simpa [sput] using h0 (by simpa [did] using h), fun _ => by simp [sput], by simpa [sput, did] using hTw, by simpa [sput, did] using hT, fun h => by simpa [did] using hx (by simpa [did] using h), fun h => by simpa [did] using hy (by simpa [did] using h), fun h => by simpa [did] using hv (by simpa [did] using h)⟩
    · have g0 := h2 (by simpa using hdep.1)
      have hd1 : d 1 = true := by simpa using hdep.2
      have hd7 : d 7 = false := by
        cases h : d 7
        · rfl
        · have := (hy h).2; rw [hd] at this; cases this
      simp [go_sem, evS, g0]
      refine (HAp.out W (below_nx HB2.out hT.1)).mono ?_
      rintro e W' ⟨g, c9, rfl, ho, hg, hb⟩
      refine ⟨_, rfl, ?_⟩
      have hT2 := hT.nxt hb
      rw [hd7] at hT2
      have hT2 := hT2.chg2 (b' := cellsV (.agg #[.slice (some ⟨g, 0, none⟩) n c9, .int .i64 o, .int .i64 R, .int .i64 C, .int .i64 L]))
      rw [hd1, hd] at hTw
      have hTw2 := hTw.second hb (c' := c9) ho (Nat.le_trans hT.1.size hg) hg
      exact ⟨fun h => by simpa [sput] using h0 (by simpa [did] using h), fun h => by simpa [sput] using h2 (by simpa [did] using h), by simpa [sput, did, hd1] using hTw2, by simpa [sput, did, hd7] using hT2, fun h => by simpa [did] using hx (by simpa [did] using h), fun h => by simp [did, hd7] at h, fun h => by simpa [did] using hd1⟩
    · have hd6 : d 6 = false := by
        cases h : d 6
        · rfl
        · have := (hx h).1; rw [hd] at this; cases this
      rw [hd, hd6] at hT
      have hT2 := hT.alloc1
      have hTw2 := hTw.nxt (below_one (W := W) (o := .cells #[.slice none 0 0, .int .i64 0, .int .i64 0, .int .i64 0, .int .i64 0] 24))
      simp [go_sem, evS]
      exact ⟨fun h => by simpa [sput] using h0 (by simpa [did] using h), fun h => by simpa [sput] using h2 (by simpa [did] using h), by simpa [sput, did] using hTw2, by simpa [sput, did, hd6] using hT2, fun h => by simp [did, hd6] at h, fun h => by simpa [did] using hy (by simpa [did] using h), fun h => by simpa [did] using hv (by simpa [did] using h)⟩
    · have hd7 : d 7 = false := by
        cases h : d 7
        · rfl
        · have := (hy h).1; rw [hd] at this; cases this
      rw [hd, hd7] at hT
      have hT2 := hT.alloc2
      have hTw2 := hTw.nxt (below_one (W := W) (o := .cells #[.slice none 0 0, .int .i64 0, .int .i64 0, .int .i64 0, .int .i64 0] 24))
      simp [go_sem, evS]
      exact ⟨fun h => by simpa [sput] using h0 (by simpa [did] using h), fun h => by simpa [sput] using h2 (by simpa [did] using h), by simpa [sput, did] using hTw2, by simpa [sput, did, hd7] using hT2, fun h => by simpa [did] using hx (by simpa [did] using h), fun h => by simp [did, hd7] at h, fun h => by simpa [did] using hv (by simpa [did] using h)⟩
    · have e4 : d 4 = true := by simp [hdep]
      have e1 : d 1 = true := by simp [hdep]
      have hTw0 := hTw
      obtain ⟨gg, cc, hva, hO1, hZ1, hrest⟩ := hTw e1
      rw [hd, e4] at hT
      obtain ⟨p, hp, hp2, hpB⟩ := hT.2.1 rfl
      simp only [Bool.false_eq_true, if_false] at hpB
      obtain ⟨r0, r1, r2, r3, r4⟩ := cells5 hpB
      obtain ⟨q0, q1, q2, q3, q4⟩ := frozen5 hpB
      rw [hp] at hT
      have hfar : ∀ k9, k9 ≠ p → _ := fun k9 (hk9 : k9 ≠ p) => heap_sets5 (w := W) hk9 (.slice (some ⟨gg, 0, none⟩) n cc) (.int .i64 o) (.int .i64 R) (.int .i64 C) (.int .i64 L)
      have hst := hpB.store5 (.slice (some ⟨gg, 0, none⟩) n cc) (.int .i64 o) (.int .i64 R) (.int .i64 C) (.int .i64 L)
      have hT2 := hT.store1 (W' := (((((W.setCell ⟨p, 0, none⟩ (.slice (some ⟨gg, 0, none⟩) n cc)).setCell ⟨p, 1, none⟩ (.int .i64 o)).setCell ⟨p, 2, none⟩ (.int .i64 R)).setCell ⟨p, 3, none⟩ (.int .i64 C)).setCell ⟨p, 4, none⟩ (.int .i64 L))) hfar (by rw [hva]; exact hst) (rest_sets5 _ _ _ _ _ _ _ _ _ _ _)
      have hTw2 := hTw0.far hpB (by decide) hfar
      simp [go_sem, evS, hp, hva, r0, r1, r2, r3, r4, q0, q1, q2, q3, q4]
      exact ⟨fun h => by simpa [sput] using h0 (by simpa [did] using h), fun h => by simpa [sput] using h2 (by simpa [did] using h), by simpa [sput, did] using hTw2, by simpa [sput, did, hp, e4] using hT2, fun _ => by simp [did, e4, e1], fun h => by simpa [did] using hy (by simpa [did] using h), fun h => by simpa [did] using hv (by simpa [did] using h)⟩
    · have e5 : d 5 = true := by simp [hdep]
      have e1 : d 3 = true := by simp [hdep]
      have hTw0 := hTw
      obtain ⟨gg0, cc0, hva0, hO1, hZ1, hrest⟩ := hTw (hv e1)
      obtain ⟨gg, cc, hva, hO2, hZ2, hne2⟩ := hrest e1
      rw [hd, e5] at hT
      obtain ⟨p, hp, hp2, hpB⟩ := hT.2.2.1 rfl
      simp only [Bool.false_eq_true, if_false] at hpB
      obtain ⟨r0, r1, r2, r3, r4⟩ := cells5 hpB
      obtain ⟨q0, q1, q2, q3, q4⟩ := frozen5 hpB
      rw [hp] at hT
      have hfar : ∀ k9, k9 ≠ p → _ := fun k9 (hk9 : k9 ≠ p) => heap_sets5 (w := W) hk9 (.slice (some ⟨gg, 0, none⟩) n cc) (.int .i64 o) (.int .i64 R) (.int .i64 C) (.int .i64 L)
      have hst := hpB.store5 (.slice (some ⟨gg, 0, none⟩) n cc) (.int .i64 o) (.int .i64 R) (.int .i64 C) (.int .i64 L)
      have hT2 := hT.store2 (W' := (((((W.setCell ⟨p, 0, none⟩ (.slice (some ⟨gg, 0, none⟩) n cc)).setCell ⟨p, 1, none⟩ (.int .i64 o)).setCell ⟨p, 2, none⟩ (.int .i64 R)).setCell ⟨p, 3, none⟩ (.int .i64 C)).setCell ⟨p, 4, none⟩ (.int .i64 L))) hfar (by rw [hva]; exact hst) (rest_sets5 _ _ _ _ _ _ _ _ _ _ _)
      have hTw2 := hTw0.far hpB (by decide) hfar
      simp [go_sem, evS, hp, hva, r0, r1, r2, r3, r4, q0, q1, q2, q3, q4]
      exact ⟨fun h => by simpa [sput] using h0 (by simpa [did] using h), fun h => by simpa [sput] using h2 (by simpa [did] using h), by simpa [sput, did] using hTw2, by simpa [sput, did, hp, e5] using hT2, fun h => by simpa [did] using hx (by simpa [did] using h), fun _ => by simp [did, e5, e1], fun h => by simpa [did] using hv (by simpa [did] using h)⟩
  intro d s W hJ hd
  obtain ⟨_, _, hTw, hT, _, _, _⟩ := hJ
  obtain ⟨g1, c1, hsA, hO1, hZ1, hrest⟩ := hTw (hd 1 (by decide))
  obtain ⟨g2, c2, hsB, hO2, hZ2, hg12⟩ := hrest (hd 3 (by decide))
  obtain ⟨hb, hp, hq, hne⟩ := hT
  obtain ⟨p, hp, hp2, hpB⟩ := hp (hd 4 (by decide))
  obtain ⟨q, hq, hq2, hqB⟩ := hq (hd 5 (by decide))
  have hpq := hne (hd 4 (by decide)) (hd 5 (by decide))
  rw [hd 6 (by decide), hsA] at hpB
  rw [hd 7 (by decide), hsB] at hqB
  rw [hp, hq] at hpq
  have hpq2 : p ≠ q := fun e => hpq (by rw [e])
  simp only [if_true, cellsV] at hpB hqB
  clear hne hTw hrest hpq hd
  simp [setAll, hp, hq]
  clear hp hq hsA hsB
  generalize s 27 = s26
  generalize s 28 = s27
  generalize s 29 = s28
  generalize s 30 = s29
  have Ha3 := Lib.hid (Ha2.out.below hb Ha2.out.lt)
  have Hx3 := Lib.hid hpB
  have Hy3 := Lib.hid hqB
  have Hu3 := Lib.hid hO1
  have Hv3 := Lib.hid hO2
  have HB3 := Lib.hid (below_nx HB2.out hb)
  have Hg1g2 := Lib.hid hg12
  have hlo0 := Ha2.out.lt
  have Hpqz := Lib.hid (show w.heap.size < g1 ∧ w.heap.size < g2 ∧ w.heap.size < p ∧ w.heap.size < q by omega)
  have Hpq := Lib.hid hpq2
  clear hpB hqB hO1 hO2 hb hg12 hpq2 hZ1 hZ2 hp2 hq2 hlo0
  clear a0 a1 a2 a3 a4
  obtain ⟨a0, a1, a2, a3, a4⟩ := cells5 Ha3.out
  obtain ⟨x0, x1, x2, x3, x4⟩ := cells5 Hx3.out
  obtain ⟨y0, y1, y2, y3, y4⟩ := cells5 Hy3.out
  have Hu3' := Lib.hid (show Own W g1 l from Hu3.out)
  have Hv3' := Lib.hid (show Own W g2 l from Hv3.out)
  clear Hu3 Hv3
  have Hu3 := Hu3'
  have Hv3 := Hv3'
  clear Hu3' Hv3'
  go_wp2_with fail
  have HNx := Lib.hid (show p ∉ [g1, g2] by simp; exact ⟨fun e => own_ne Hu3.out Hx3.out (by decide) e.symm, fun e => own_ne Hv3.out Hx3.out (by decide) e.symm⟩)
  have HNy := Lib.hid (show q ∉ [g1, g2] by simp; exact ⟨fun e => own_ne Hu3.out Hy3.out (by decide) e.symm, fun e => own_ne Hv3.out Hy3.out (by decide) e.symm⟩)
  have HGz := Lib.hid (show ∀ g ∈ [g1, g2], w.heap.size ≤ g by have := Hpqz.out; simp; omega)
  have HNa := Lib.hid (show w.heap.size ∉ [g1, g2] by have := Hpqz.out; simp; omega)
  have HBo := Lib.hid (Both.start (W0 := W) (F1 := F1) (F2 := F2) Hu3.out.drew Hv3.out.drew (Chg.refl _ W).drew)
  generalize W = W3 at *
  refine wp_region_inv [31, 32, 33, 34, 35, 36, 37, 11, 12] (fun d s W => (d 0 = true → s 31 = .agg #[.slice (some ⟨g1, 0, none⟩) n c1, .int .i64 o, .int .i64 R, .int .i64 C, .int .i64 L]) ∧ (d 1 = true → s 32 = .int .i64 j1) ∧ (d 2 = true → s 33 = .int .i64 j2) ∧ (d 3 = true → s 34 = .int .i64 E1) ∧ (d 4 = true → s 35 = .agg #[.slice (some ⟨g2, 0, none⟩) n c2, .int .i64 o, .int .i64 R, .int .i64 C, .int .i64 L]) ∧ (d 5 = true → s 36 = .slice B m dz) ∧ (d 6 = true → s 37 = .int .i64 E2) ∧ (d 7 = true → s 11 = .int .i64 E1) ∧ (d 8 = true → s 12 = .int .i64 E2) ∧ Both W3 l F1 F2 g1 g2 (d 3) (d 6) W)
    rfl (by kernel_rfl) ?_ ?_ ?_
  · exact ⟨by simp, by simp, by simp, by simp, by simp, by simp, by simp, by simp, by simp, HBo.out⟩
  · refine ⟨?_, ?_, ?_, ?_, ?_, ?_, ?_, ?_, ?_, trivial⟩
    all_goals
      intro d s W hJ hfr hd hdep
      simp only [List.mem_cons, forall_eq_or_imp, List.not_mem_nil, false_implies, implies_true, and_true, Region.binds] at hdep
      have f9 := hfr 9 (by decide)
      have f10 := hfr 10 (by decide)
      have f1 := hfr 1 (by decide)
      have f2 := hfr 2 (by decide)
      have f3 := hfr 3 (by decide)
      simp at f9 f10 f1 f2 f3 hdep
      obtain ⟨h0, h1, h2, h3, h4, h5, h6, h7, h8, hT⟩ := hJ
      unfold OpSteps
    · obtain ⟨p0, p1, p2, p3, p4⟩ := cells5 (hT.chg.blk HNx.out Hx3.out)
      simp [go_sem, evS, f9, f10, f1, f2, f3, p0, p1, p2, p3, p4]
      exact ⟨fun _ => by simp [sput], fun h => by simpa [sput] using h1 (by simpa [did] using h), fun h => by simpa [sput] using h2 (by simpa [did] using h), fun h => by simpa [sput] using h3 (by simpa [did] using h), fun h => by simpa [sput] using h4 (by simpa [did] using h), fun h => by simpa [sput] using h5 (by simpa [did] using h), fun h => by simpa [sput] using h6 (by simpa [did] using h), fun h => by simpa [sput] using h7 (by simpa [did] using h), fun h => by simpa [sput] using h8 (by simpa [did] using h), by simpa [did] using hT⟩
    · simp [go_sem, evS, f9, f10, f1, f2, f3]
      exact ⟨fun h => by simpa [sput] using h0 (by simpa [did] using h), fun _ => by simp [sput], fun h => by simpa [sput] using h2 (by simpa [did] using h), fun h => by simpa [sput] using h3 (by simpa [did] using h), fun h => by simpa [sput] using h4 (by simpa [did] using h), fun h => by simpa [sput] using h5 (by simpa [did] using h), fun h => by simpa [sput] using h6 (by simpa [did] using h), fun h => by simpa [sput] using h7 (by simpa [did] using h), fun h => by simpa [sput] using h8 (by simpa [did] using h), by simpa [did] using hT⟩
    · simp [go_sem, evS, f9, f10, f1, f2, f3]
      exact ⟨fun h => by simpa [sput] using h0 (by simpa [did] using h), fun h => by simpa [sput] using h1 (by simpa [did] using h), fun _ => by simp [sput], fun h => by simpa [sput] using h3 (by simpa [did] using h), fun h => by simpa [sput] using h4 (by simpa [did] using h), fun h => by simpa [sput] using h5 (by simpa [did] using h), fun h => by simpa [sput] using h6 (by simpa [did] using h), fun h => by simpa [sput] using h7 (by simpa [did] using h), fun h => by simpa [sput] using h8 (by simpa [did] using h), by simpa [did] using hT⟩
    · have fa0 := h0 (by simp [hdep])
      have fa1 := h1 (by simp [hdep])
      have fa2 := h2 (by simp [hdep])
      rw [hd] at hT
      simp [go_sem, evS, f9, f10, f1, f2, f3, fa0, fa1, fa2]
      refine (HRw.out W g1 c1 hT.one).mono ?_
      rintro e W' ⟨rfl, l', ho, hF, hc⟩
      refine ⟨_, rfl, ?_⟩
      exact ⟨fun h => by simpa [sput] using h0 (by simpa [did] using h), fun h => by simpa [sput] using h1 (by simpa [did] using h), fun h => by simpa [sput] using h2 (by simpa [did] using h), fun _ => by simp [sput], fun h => by simpa [sput] using h4 (by simpa [did] using h), fun h => by simpa [sput] using h5 (by simpa [did] using h), fun h => by simpa [sput] using h6 (by simpa [did] using h), fun h => by simpa [sput] using h7 (by simpa [did] using h), fun h => by simpa [sput] using h8 (by simpa [did] using h), by have h9 := hT.first Hg1g2.out ho hF hc; simpa [did] using h9⟩
    · obtain ⟨p0, p1, p2, p3, p4⟩ := cells5 (hT.chg.blk HNy.out Hy3.out)
      simp [go_sem, evS, f9, f10, f1, f2, f3, p0, p1, p2, p3, p4]
      exact ⟨fun h => by simpa [sput] using h0 (by simpa [did] using h), fun h => by simpa [sput] using h1 (by simpa [did] using h), fun h => by simpa [sput] using h2 (by simpa [did] using h), fun h => by simpa [sput] using h3 (by simpa [did] using h), fun _ => by simp [sput], fun h => by simpa [sput] using h5 (by simpa [did] using h), fun h => by simpa [sput] using h6 (by simpa [did] using h), fun h => by simpa [sput] using h7 (by simpa [did] using h), fun h => by simpa [sput] using h8 (by simpa [did] using h), by simpa [did] using hT⟩
    · simp [go_sem, evS, f9, f10, f1, f2, f3]
      exact ⟨fun h => by simpa [sput] using h0 (by simpa [did] using h), fun h => by simpa [sput] using h1 (by simpa [did] using h), fun h => by simpa [sput] using h2 (by simpa [did] using h), fun h => by simpa [sput] using h3 (by simpa [did] using h), fun h => by simpa [sput] using h4 (by simpa [did] using h), fun _ => by simp [sput], fun h => by simpa [sput] using h6 (by simpa [did] using h), fun h => by simpa [sput] using h7 (by simpa [did] using h), fun h => by simpa [sput] using h8 (by simpa [did] using h), by simpa [did] using hT⟩
    · have fa4 := h4 (by simp [hdep])
      have fa5 := h5 (by simp [hdep])
      rw [hd] at hT
      simp [go_sem, evS, f9, f10, f1, f2, f3, fa4, fa5]
      refine (HTk.out W g2 c2 hT.two (chg_row HBz.out HB3.out hT.chg HGz.out) (HGz.out g2 (by simp))).mono ?_
      rintro e W' ⟨rfl, l', ho, hF, hc⟩
      refine ⟨_, rfl, ?_⟩
      exact ⟨fun h => by simpa [sput] using h0 (by simpa [did] using h), fun h => by simpa [sput] using h1 (by simpa [did] using h), fun h => by simpa [sput] using h2 (by simpa [did] using h), fun h => by simpa [sput] using h3 (by simpa [did] using h), fun h => by simpa [sput] using h4 (by simpa [did] using h), fun h => by simpa [sput] using h5 (by simpa [did] using h), fun _ => by simp [sput], fun h => by simpa [sput] using h7 (by simpa [did] using h), fun h => by simpa [sput] using h8 (by simpa [did] using h), by have h9 := hT.second Hg1g2.out ho hF hc; simpa [did] using h9⟩
    · have fa3 := h3 (by simp [hdep])
      simp [go_sem, evS, f9, f10, f1, f2, f3, fa3]
      exact ⟨fun h => by simpa [sput] using h0 (by simpa [did] using h), fun h => by simpa [sput] using h1 (by simpa [did] using h), fun h => by simpa [sput] using h2 (by simpa [did] using h), fun h => by simpa [sput] using h3 (by simpa [did] using h), fun h => by simpa [sput] using h4 (by simpa [did] using h), fun h => by simpa [sput] using h5 (by simpa [did] using h), fun h => by simpa [sput] using h6 (by simpa [did] using h), fun _ => by simp [sput], fun h => by simpa [sput] using h8 (by simpa [did] using h), by simpa [did] using hT⟩
    · have fa6 := h6 (by simp [hdep])
      simp [go_sem, evS, f9, f10, f1, f2, f3, fa6]
      exact ⟨fun h => by simpa [sput] using h0 (by simpa [did] using h), fun h => by simpa [sput] using h1 (by simpa [did] using h), fun h => by simpa [sput] using h2 (by simpa [did] using h), fun h => by simpa [sput] using h3 (by simpa [did] using h), fun h => by simpa [sput] using h4 (by simpa [did] using h), fun h => by simpa [sput] using h5 (by simpa [did] using h), fun h => by simpa [sput] using h6 (by simpa [did] using h), fun h => by simpa [sput] using h7 (by simpa [did] using h), fun _ => by simp [sput], by simpa [did] using hT⟩
  intro d s W hJ hd
  obtain ⟨h0, h1, h2, h3, h4, h5, h6, h7, h8, hT⟩ := hJ
  have h11 := h7 (hd 7 (by decide))
  have h12 := h8 (hd 8 (by decide))
  rw [hd 3 (by decide), hd 6 (by decide)] at hT
  obtain ⟨la, lb, hoa, hob, hfa, hfb, hcc⟩ := hT
  clear h0 h1 h2 h3 h4 h5 h6 h7 h8 hd
  simp only [if_true] at hfa hfb
  have Hu4 := Lib.hid hoa
  have Hv4 := Lib.hid hob
  have HFa := Lib.hid hfa
  have HFb := Lib.hid hfb
  have Hx4 := Lib.hid (hcc.blk HNx.out Hx3.out)
  have Hy4 := Lib.hid (hcc.blk HNy.out Hy3.out)
  have Ha4 := Lib.hid (hcc.blk HNa.out Ha3.out)
  have HB4 := Lib.hid (hcc.below HB3.out HB3.out.size (fun x hx => HGz.out x hx))
  clear hoa hob hfa hfb hcc
  simp [setAll, h11, h12]
  clear h11 h12
  generalize s 31 = s31
  generalize s 32 = s32
  generalize s 33 = s33
  generalize s 34 = s34
  generalize s 35 = s35
  generalize s 36 = s36
  generalize s 37 = s37
  clear a0 a1 a2 a3 a4 x0 x1 x2 x3 x4 y0 y1 y2 y3 y4
  obtain ⟨a0, a1, a2, a3, a4⟩ := cells5 Ha4.out
  obtain ⟨x0, x1, x2, x3, x4⟩ := cells5 Hx4.out
  obtain ⟨y0, y1, y2, y3, y4⟩ := cells5 Hy4.out
  subst hE1
  go_wp2_with fail
  refine (HGd.out _).mono ?_
  rintro e w9 ⟨rfl, hb⟩
  have Ha5 := Lib.hid (Ha4.out.nxt hb)
  have Hx5 := Lib.hid (Hx4.out.nxt hb)
  have Hy5 := Lib.hid (Hy4.out.nxt hb)
  have Hu5 := Lib.hid (Hu4.out.nxt hb)
  have Hv5 := Lib.hid (Hv4.out.nxt hb)
  have HB5 := Lib.hid (below_nx HB4.out hb)
  clear hb
  clear a0 a1 a2 a3 a4 x0 x1 x2 x3 x4 y0 y1 y2 y3 y4
  obtain ⟨a0, a1, a2, a3, a4⟩ := cells5 Ha5.out
  obtain ⟨x0, x1, x2, x3, x4⟩ := cells5 Hx5.out
  obtain ⟨y0, y1, y2, y3, y4⟩ := cells5 Hy5.out
  go_wp2_with fail
  refine wp_region_inv [64, 65, 66, 67, 13, 14] (fun d s W => (d 0 = true → s 64 = .agg #[.slice A n c, .int .i64 o, .int .i64 R, .int .i64 C, .int .i64 L]) ∧ (d 2 = true → s 66 = .agg #[.slice A n c, .int .i64 o, .int .i64 R, .int .i64 C, .int .i64 L]) ∧ Twn w9.heap.size (fun cs => ∃ T, cs = (f64s T).toArray ∧ Tab l o R C L N T) (fun cs => ∃ T, cs = (f64s T).toArray ∧ Tab l o R C L N T) (fun g c => .agg #[.int .i64 R, .int .i64 C, .slice (some ⟨g, 0, none⟩) N (N + 0 * c)]) (fun g c => .agg #[.int .i64 R, .int .i64 C, .slice (some ⟨g, 0, none⟩) N (N + 0 * c)]) (d 1) (d 3) (s 65) (s 67) W ∧
    Two w9 34 #[.int .i64 0, .int .i64 0, .slice none 0 0] (cellsV (s 65)) (cellsV (s 67)) (d 4) (d 5) (d 6) (d 7) (s 13) (s 14) W ∧ (d 6 = true → d 4 = true ∧ d 1 = true) ∧ (d 7 = true → d 5 = true ∧ d 3 = true) ∧ (d 3 = true → d 1 = true))
    rfl (by kernel_rfl) ?_ ?_ ?_
  · exact ⟨by simp, by simp, fun h => by simp at h, ⟨(Below.refl _ _).drew, by simp, by simp, by simp⟩, by simp, by simp, by simp⟩
  · refine ⟨?_, ?_, ?_, ?_, ?_, ?_, ?_, ?_, trivial⟩
    all_goals
      intro d s W hJ hfr hd hdep
      simp only [List.mem_cons, forall_eq_or_imp, List.not_mem_nil, false_implies, implies_true, and_true, Region.binds] at hdep
      have f0 := hfr 4 (by decide)
      have f1 := hfr 4 (by decide)
      simp at f0 f1 hdep
      obtain ⟨h0, h2, hTw, hT, hx, hy, hv⟩ := hJ
      unfold OpSteps
    · obtain ⟨p0, p1, p2, p3, p4⟩ := cells5 (Ha5.out.below hT.1 Ha5.out.lt)
      simp [go_sem, evS, f0, p0, p1, p2, p3, p4]
      exact ⟨fun _ => by simp [sput], fun h => by simpa [sput] using h2 (by simpa [did] using h), by simpa [sput, did] using hTw, by simpa [sput, did] using hT, fun h => by simpa [did] using hx (by simpa [did] using h), fun h => by simpa [did] using hy (by simpa [did] using h), fun h => by simpa [did] using hv (by simpa [did] using h)⟩
    · have g0 := h0 (by simpa using hdep)
      have hd3 : d 3 = false := by
        cases h : d 3
        · rfl
        · have := hv h; rw [hd] at this; cases this
      have hd6 : d 6 = false := by
        cases h : d 6
        · rfl
        · have := (hx h).2; rw [hd] at this; cases this
      simp [go_sem, evS, g0]
      refine (HOf.out W (below_nx HB5.out hT.1)).mono ?_
      rintro e W' ⟨g, c9, rfl, ho, hg, hb⟩
      refine ⟨_, rfl, ?_⟩
      have hT2 := hT.nxt hb
      rw [hd6] at hT2
      have hT2 := hT2.chg1 (a' := cellsV (.agg #[.int .i64 R, .int .i64 C, .slice (some ⟨g, 0, none⟩) N (N + 0 * c9)]))
      have hTw2 := Twn.first (Z := w9.heap.size) (S := (fun cs => ∃ T, cs = (f64s T).toArray ∧ Tab l o R C L N T)) (S' := (fun cs => ∃ T, cs = (f64s T).toArray ∧ Tab l o R C L N T)) (f := (fun g c => .agg #[.int .i64 R, .int .i64 C, .slice (some ⟨g, 0, none⟩) N (N + 0 * c)])) (f' := (fun g c => .agg #[.int .i64 R, .int .i64 C, .slice (some ⟨g, 0, none⟩) N (N + 0 * c)])) (d3 := false) (vb := s 67) (c := c9) ho (Nat.le_trans hT.1.size hg) rfl
      exact ⟨fun h => by simpa [sput] using h0 (by simpa [did] using h), fun h => by simpa [sput] using h2 (by simpa [did] using h), by simpa [sput, did, hd3] using hTw2, by simpa [sput, did, hd6] using hT2, fun h => by simp [did, hd6] at h, fun h => by simpa [did] using hy (by simpa [did] using h), fun h => by simp [did]⟩
    · obtain ⟨p0, p1, p2, p3, p4⟩ := cells5 (Ha5.out.below hT.1 Ha5.out.lt)
      simp [go_sem, evS, f1, p0, p1, p2, p3, p4]
      exact ⟨fun h => by simpa [sput] using h0 (by simpa [did] using h), fun _ => by simp [sput], by simpa [sput, did] using hTw, by simpa [sput, did] using hT, fun h => by simpa [did] using hx (by simpa [did] using h), fun h => by simpa [did] using hy (by simpa [did] using h), fun h => by simpa [did] using hv (by simpa [did] using h)⟩
    · have g0 := h2 (by simpa using hdep.1)
      have hd1 : d 1 = true := by simpa using hdep.2
      have hd7 : d 7 = false := by
        cases h : d 7
        · rfl
        · have := (hy h).2; rw [hd] at this; cases this
      simp [go_sem, evS, g0]
      refine (HOf.out W (below_nx HB5.out hT.1)).mono ?_
      rintro e W' ⟨g, c9, rfl, ho, hg, hb⟩
      refine ⟨_, rfl, ?_⟩
      have hT2 := hT.nxt hb
      rw [hd7] at hT2
      have hT2 := hT2.chg2 (b' := cellsV (.agg #[.int .i64 R, .int .i64 C, .slice (some ⟨g, 0, none⟩) N (N + 0 * c9)]))
      rw [hd1, hd] at hTw
      have hTw2 := hTw.second hb (c' := c9) ho (Nat.le_trans hT.1.size hg) hg
      exact ⟨fun h => by simpa [sput] using h0 (by simpa [did] using h), fun h => by simpa [sput] using h2 (by simpa [did] using h), by simpa [sput, did, hd1] using hTw2, by simpa [sput, did, hd7] using hT2, fun h => by simpa [did] using hx (by simpa [did] using h), fun h => by simp [did, hd7] at h, fun h => by simpa [did] using hd1⟩
    · have hd6 : d 6 = false := by
        cases h : d 6
        · rfl
        · have := (hx h).1; rw [hd] at this; cases this
      rw [hd, hd6] at hT
      have hT2 := hT.alloc1
      have hTw2 := hTw.nxt (below_one (W := W) (o := .cells #[.int .i64 0, .int .i64 0, .slice none 0 0] 34))
      simp [go_sem, evS]
      exact ⟨fun h => by simpa [sput] using h0 (by simpa [did] using h), fun h => by simpa [sput] using h2 (by simpa [did] using h), by simpa [sput, did] using hTw2, by simpa [sput, did, hd6] using hT2, fun h => by simp [did, hd6] at h, fun h => by simpa [did] using hy (by simpa [did] using h), fun h => by simpa [did] using hv (by simpa [did] using h)⟩
    · have hd7 : d 7 = false := by
        cases h : d 7
        · rfl
        · have := (hy h).1; rw [hd] at this; cases this
      rw [hd, hd7] at hT
      have hT2 := hT.alloc2
      have hTw2 := hTw.nxt (below_one (W := W) (o := .cells #[.int .i64 0, .int .i64 0, .slice none 0 0] 34))
      simp [go_sem, evS]
      exact ⟨fun h => by simpa [sput] using h0 (by simpa [did] using h), fun h => by simpa [sput] using h2 (by simpa [did] using h), by simpa [sput, did] using hTw2, by simpa [sput, did, hd7] using hT2, fun h => by simpa [did] using hx (by simpa [did] using h), fun h => by simp [did, hd7] at h, fun h => by simpa [did] using hv (by simpa [did] using h)⟩
    · have e4 : d 4 = true := by simp [hdep]
      have e1 : d 1 = true := by simp [hdep]
      have hTw0 := hTw
      obtain ⟨gg, cc, hva, hO1, hZ1, hrest⟩ := hTw e1
      rw [hd, e4] at hT
      obtain ⟨p, hp, hp2, hpB⟩ := hT.2.1 rfl
      simp only [Bool.false_eq_true, if_false] at hpB
      obtain ⟨r0, r1, r2⟩ := cells3v hpB
      obtain ⟨q0, q1, q2⟩ := frozen3v hpB
      rw [hp] at hT
      have hfar : ∀ k9, k9 ≠ p → _ := fun k9 (hk9 : k9 ≠ p) => heap_sets3 (w := W) hk9 (.int .i64 R) (.int .i64 C) (.slice (some ⟨gg, 0, none⟩) N (N + 0 * cc))
      have hst := hpB.store3v (.int .i64 R) (.int .i64 C) (.slice (some ⟨gg, 0, none⟩) N (N + 0 * cc))
      have hT2 := hT.store1 (W' := (((W.setCell ⟨p, 0, none⟩ (.int .i64 R)).setCell ⟨p, 1, none⟩ (.int .i64 C)).setCell ⟨p, 2, none⟩ (.slice (some ⟨gg, 0, none⟩) N (N + 0 * cc)))) hfar (by rw [hva]; exact hst) (rest_sets3 _ _ _ _ _ _ _)
      have hTw2 := hTw0.far hpB (by decide) hfar
      simp [go_sem, evS, hp, hva, r0, r1, r2, q0, q1, q2]
      exact ⟨fun h => by simpa [sput] using h0 (by simpa [did] using h), fun h => by simpa [sput] using h2 (by simpa [did] using h), by simpa [sput, did] using hTw2, by simpa [sput, did, hp, e4] using hT2, fun _ => by simp [did, e4, e1], fun h => by simpa [did] using hy (by simpa [did] using h), fun h => by simpa [did] using hv (by simpa [did] using h)⟩
    · have e5 : d 5 = true := by simp [hdep]
      have e1 : d 3 = true := by simp [hdep]
      have hTw0 := hTw
      obtain ⟨gg0, cc0, hva0, hO1, hZ1, hrest⟩ := hTw (hv e1)
      obtain ⟨gg, cc, hva, hO2, hZ2, hne2⟩ := hrest e1
      rw [hd, e5] at hT
      obtain ⟨p, hp, hp2, hpB⟩ := hT.2.2.1 rfl
      simp only [Bool.false_eq_true, if_false] at hpB
      obtain ⟨r0, r1, r2⟩ := cells3v hpB
      obtain ⟨q0, q1, q2⟩ := frozen3v hpB
      rw [hp] at hT
      have hfar : ∀ k9, k9 ≠ p → _ := fun k9 (hk9 : k9 ≠ p) => heap_sets3 (w := W) hk9 (.int .i64 R) (.int .i64 C) (.slice (some ⟨gg, 0, none⟩) N (N + 0 * cc))
      have hst := hpB.store3v (.int .i64 R) (.int .i64 C) (.slice (some ⟨gg, 0, none⟩) N (N + 0 * cc))
      have hT2 := hT.store2 (W' := (((W.setCell ⟨p, 0, none⟩ (.int .i64 R)).setCell ⟨p, 1, none⟩ (.int .i64 C)).setCell ⟨p, 2, none⟩ (.slice (some ⟨gg, 0, none⟩) N (N + 0 * cc)))) hfar (by rw [hva]; exact hst) (rest_sets3 _ _ _ _ _ _ _)
      have hTw2 := hTw0.far hpB (by decide) hfar
      simp [go_sem, evS, hp, hva, r0, r1, r2, q0, q1, q2]
      exact ⟨fun h => by simpa [sput] using h0 (by simpa [did] using h), fun h => by simpa [sput] using h2 (by simpa [did] using h), by simpa [sput, did] using hTw2, by simpa [sput, did, hp, e5] using hT2, fun h => by simpa [did] using hx (by simpa [did] using h), fun _ => by simp [did, e5, e1], fun h => by simpa [did] using hv (by simpa [did] using h)⟩
  intro d s W hJ hd
  obtain ⟨_, _, hTw, hT, _, _, _⟩ := hJ
  obtain ⟨g3, c3, hsA, hO1, hZ1, hrest⟩ := hTw (hd 1 (by decide))
  obtain ⟨g4, c4, hsB, hO2, hZ2, hg12⟩ := hrest (hd 3 (by decide))
  obtain ⟨hb, hp, hq, hne⟩ := hT
  obtain ⟨p3, hp, hp2, hpB⟩ := hp (hd 4 (by decide))
  obtain ⟨q3, hq, hq2, hqB⟩ := hq (hd 5 (by decide))
  have hpq := hne (hd 4 (by decide)) (hd 5 (by decide))
  rw [hd 6 (by decide), hsA] at hpB
  rw [hd 7 (by decide), hsB] at hqB
  rw [hp, hq] at hpq
  have hpq2 : p3 ≠ q3 := fun e => hpq (by rw [e])
  simp only [if_true, cellsV] at hpB hqB
  clear hne hTw hrest hpq hd
  simp [setAll, hp, hq]
  clear hp hq hsA hsB
  generalize s 64 = s26
  generalize s 65 = s27
  generalize s 66 = s28
  generalize s 67 = s29
  have Ha6 := Lib.hid (Ha5.out.below hb Ha5.out.lt)
  have Hx6 := Lib.hid (Hx5.out.below hb Hx5.out.lt)
  have Hy6 := Lib.hid (Hy5.out.below hb Hy5.out.lt)
  have Hu6 := Lib.hid (Hu5.out.nxt hb)
  have Hv6 := Lib.hid (Hv5.out.nxt hb)
  have Hf6 := Lib.hid hpB
  have Hh6 := Lib.hid hqB
  have Hs6 := Lib.hid hO1
  have Ht6 := Lib.hid hO2
  have HB6 := Lib.hid (below_nx HB5.out hb)
  have Hg3g4 := Lib.hid hg12
  have hlo0 := Ha5.out.lt
  have hlo1 := Hu5.out.lt
  have hlo2 := Hv5.out.lt
  have Hp3q3z := Lib.hid (show w.heap.size < g3 ∧ w.heap.size < g4 ∧ w.heap.size < p3 ∧ w.heap.size < q3 ∧ g1 < g3 ∧ g2 < g3 ∧ g1 < g4 ∧ g2 < g4 by omega)
  have Hp3q3 := Lib.hid hpq2
  clear hpB hqB hO1 hO2 hb hg12 hpq2 hZ1 hZ2 hp2 hq2 hlo0 hlo1 hlo2
  clear a0 a1 a2 a3 a4 x0 x1 x2 x3 x4 y0 y1 y2 y3 y4
  obtain ⟨a0, a1, a2, a3, a4⟩ := cells5 Ha6.out
  obtain ⟨x0, x1, x2, x3, x4⟩ := cells5 Hx6.out
  obtain ⟨y0, y1, y2, y3, y4⟩ := cells5 Hy6.out
  obtain ⟨f0, f1, f2⟩ := cells3v Hf6.out
  obtain ⟨h0, h1, h2⟩ := cells3v Hh6.out
  obtain ⟨cs3, hs3, T1, rfl, htab1⟩ := Hs6.out
  obtain ⟨cs4, hs4, T2, rfl, htab2⟩ := Ht6.out
  have HTab1 := Lib.hid htab1
  have HTab2 := Lib.hid htab2
  clear Hs6 Ht6
  have Hs6 := Lib.hid hs3
  have Ht6 := Lib.hid hs4
  clear hs3 hs4 htab1 htab2
  clear a0 a1 a2 a3 a4 x0 x1 x2 x3 x4 y0 y1 y2 y3 y4 f0 f1 f2 h0 h1 h2
  rw [Nat.zero_mul, Nat.add_zero] at Hf6 Hh6
  obtain ⟨a0, a1, a2, a3, a4⟩ := cells5 Ha6.out
  obtain ⟨x0, x1, x2, x3, x4⟩ := cells5 Hx6.out
  obtain ⟨y0, y1, y2, y3, y4⟩ := cells5 Hy6.out
  obtain ⟨f0, f1, f2⟩ := cells3v Hf6.out
  obtain ⟨h0, h1, h2⟩ := cells3v Hh6.out
  have HG1' := Lib.hid ((HG1.out T1 T1).2 rfl)
  go_wp2_with fail
  refine (HrT.out _ g4 T2 HTab2.out Ht6.out (HBz.out.below HB6.out) (by have := Hp3q3z.out; omega)).mono ?_
  rintro e wT ⟨rfl, T2', hbT, hgT, hcT⟩
  have Ha7 := Lib.hid (hcT.blk (fun h => blk_ne Ha6.out Ht6.out (by decide) (List.mem_singleton.1 h)) Ha6.out)
  have Hx7 := Lib.hid (hcT.blk (fun h => blk_ne Hx6.out Ht6.out (by decide) (List.mem_singleton.1 h)) Hx6.out)
  have Hy7 := Lib.hid (hcT.blk (fun h => blk_ne Hy6.out Ht6.out (by decide) (List.mem_singleton.1 h)) Hy6.out)
  have Hf7 := Lib.hid (hcT.blk (fun h => blk_ne Hf6.out Ht6.out (by decide) (List.mem_singleton.1 h)) Hf6.out)
  have Hh7 := Lib.hid (hcT.blk (fun h => blk_ne Hh6.out Ht6.out (by decide) (List.mem_singleton.1 h)) Hh6.out)
  have Ht7 := Lib.hid hbT
  have Hu7 := Lib.hid (hcT.own (by have := Hp3q3z.out; simp; omega) Hu6.out)
  have Hv7 := Lib.hid (hcT.own (by have := Hp3q3z.out; simp; omega) Hv6.out)
  have Hs7 := Lib.hid (hcT.blk (by have := Hg3g4.out; simp; omega) Hs6.out)
  have HB7 := Lib.hid (hcT.below HB6.out HB6.out.size (fun x hx => by have := Hp3q3z.out; simp at hx; omega))
  have HG2 := Lib.hid hgT
  clear hbT hgT hcT
  clear a0 a1 a2 a3 a4 x0 x1 x2 x3 x4 y0 y1 y2 y3 y4 f0 f1 f2 h0 h1 h2
  obtain ⟨a0, a1, a2, a3, a4⟩ := cells5 Ha7.out
  obtain ⟨x0, x1, x2, x3, x4⟩ := cells5 Hx7.out
  obtain ⟨y0, y1, y2, y3, y4⟩ := cells5 Hy7.out
  obtain ⟨f0, f1, f2⟩ := cells3v Hf7.out
  obtain ⟨h0, h1, h2⟩ := cells3v Hh7.out
  have HI1 := Lib.hid (fun W (hb : Below wT.heap.size wT W) => HIn.out W (HB7.out.trans (hb.mono HB7.out.size)) g3 T1 (HT1.out _ _ HTab1.out HG1'.out) ((row_of_blk Hs7.out).below hb) (Nat.lt_of_lt_of_le Hs7.out.lt hb.size))
  have HI2 := Lib.hid (fun W (hb : Below wT.heap.size wT W) => HIn.out W (HB7.out.trans (hb.mono HB7.out.size)) g4 T2' (HT2.out _ _ HTab2.out HG2.out) ((row_of_blk Ht7.out).below hb) (Nat.lt_of_lt_of_le Ht7.out.lt hb.size))
  have HA1 := Lib.hid (fun W g l' c c' (hb : Below wT.heap.size wT W) (ho : Own W g l') (hi : Img l o R C L (fun a b => T1.getD (a * C + b) 0) l') => HAll.out W la (some ⟨g1, 0, none⟩) (some ⟨g, 0, none⟩) c c' (HF1.out _ HFa.out) (Hu7.out.nxt hb).row (by rw [HE1.out _ _ _ _ HTab1.out HG1'.out HFa.out hi]; exact ho.row))
  have HA2 := Lib.hid (fun W g l' c c' (hb : Below wT.heap.size wT W) (ho : Own W g l') (hi : Img l o R C L (fun a b => T2'.getD (a * C + b) 0) l') => HAll.out W lb (some ⟨g2, 0, none⟩) (some ⟨g, 0, none⟩) c c' (HF2.out _ HFb.out) (Hv7.out.nxt hb).row (by rw [HE2.out _ _ _ _ HTab2.out HG2.out HFb.out hi]; exact ho.row))
  unfold Intod at *
  have HBd := Lib.hid (Below.refl wT.heap.size wT).drew
  go_wp2_with fail
  go_region_held3 (fun w' => w'.cell? ⟨w.heap.size, 0, none⟩ = some (.slice A n c) ∧ w'.cell? ⟨w.heap.size, 1, none⟩ = some (.int .i64 o) ∧ w'.cell? ⟨w.heap.size, 2, none⟩ = some (.int .i64 R) ∧ w'.cell? ⟨w.heap.size, 3, none⟩ = some (.int .i64 C) ∧ w'.cell? ⟨w.heap.size, 4, none⟩ = some (.int .i64 L) ∧ w'.cell? ⟨p3, 0, none⟩ = some (.int .i64 R) ∧ w'.cell? ⟨p3, 1, none⟩ = some (.int .i64 C) ∧ w'.cell? ⟨p3, 2, none⟩ = some (.slice (some ⟨g3, 0, none⟩) N N) ∧ w'.cell? ⟨q3, 0, none⟩ = some (.int .i64 R) ∧ w'.cell? ⟨q3, 1, none⟩ = some (.int .i64 C) ∧ w'.cell? ⟨q3, 2, none⟩ = some (.slice (some ⟨g4, 0, none⟩) N N) ∧ w'.cell? ⟨p, 0, none⟩ = some (.slice (some ⟨g1, 0, none⟩) n c1) ∧ w'.cell? ⟨q, 0, none⟩ = some (.slice (some ⟨g2, 0, none⟩) n c2) ∧ Below wT.heap.size wT w')
    (first | exact ⟨a0, a1, a2, a3, a4, f0, f1, f2, h0, h1, h2, x0, y0, HBd.out⟩ | (with_reducible exact held13 ‹_ ∧ _ ∧ _ ∧ _ ∧ _ ∧ _ ∧ _ ∧ _ ∧ _ ∧ _ ∧ _ ∧ _ ∧ _ ∧ Below wT.heap.size wT _› hbA))
    (first
      | (go_at_call 17; (with_reducible refine (HI1.out _ (‹_ ∧ _ ∧ _ ∧ _ ∧ _ ∧ _ ∧ _ ∧ _ ∧ _ ∧ _ ∧ _ ∧ _ ∧ _ ∧ Below wT.heap.size wT _›).2.2.2.2.2.2.2.2.2.2.2.2.2).mono ?_); rintro e1 wA ⟨g5, c5, l5, rfl, ho5, hi5, hg5, hbA⟩; skip)
      | (go_at_call 17; (with_reducible refine (HI2.out _ (‹_ ∧ _ ∧ _ ∧ _ ∧ _ ∧ _ ∧ _ ∧ _ ∧ _ ∧ _ ∧ _ ∧ _ ∧ _ ∧ Below wT.heap.size wT _›).2.2.2.2.2.2.2.2.2.2.2.2.2).mono ?_); rintro e1 wA ⟨g6, c6, l6, rfl, ho6, hi6, hg6, hbA⟩; skip)
      | (go_at_call 13; (with_reducible refine (HA1.out _ g5 l5 _ c5 (‹_ ∧ _ ∧ _ ∧ _ ∧ _ ∧ _ ∧ _ ∧ _ ∧ _ ∧ _ ∧ _ ∧ _ ∧ _ ∧ Below wT.heap.size wT _›).2.2.2.2.2.2.2.2.2.2.2.2.2 ho5 hi5).mono ?_); rintro e1 wA ⟨rfl, hbA⟩; skip)
      | (go_at_call 13; (with_reducible refine (HA2.out _ g6 l6 _ c6 (‹_ ∧ _ ∧ _ ∧ _ ∧ _ ∧ _ ∧ _ ∧ _ ∧ _ ∧ _ ∧ _ ∧ _ ∧ _ ∧ Below wT.heap.size wT _›).2.2.2.2.2.2.2.2.2.2.2.2.2 ho6 hi6).mono ?_); rintro e1 wA ⟨rfl, hbA⟩; skip)
      | (go_at_call 7; (with_reducible refine (awake4_any _).mono ?_); rintro e1 wA ⟨rfl, hbA⟩; skip))
  have hbE := (‹_ ∧ _ ∧ _ ∧ _ ∧ _ ∧ _ ∧ _ ∧ _ ∧ _ ∧ _ ∧ _ ∧ _ ∧ _ ∧ Below wT.heap.size wT _›).2.2.2.2.2.2.2.2.2.2.2.2.2
  go_wp2_with fail
  go_ret
  exact ⟨rfl, HB7.out.trans (hbE.mono HB7.out.size)⟩
end Go.Proofs.Ytamndbeffbcppaa
