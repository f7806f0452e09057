/-
MoveClones, walked. Conditions: as each says.
-/
import Derived.Test.YtamndbeffbcppaaZe
set_option linter.unusedVariables false
set_option linter.unusedSimpArgs false
set_option linter.unnecessarySimpa false
namespace Go.Proofs.Ytamndbeffbcppaa
open Go.RowKit
attribute [local go_sem ↓] Go.wp_at_zero Go.wp_at_succ


set_option maxRecDepth 100000 in
set_option maxHeartbeats 3000000 in
theorem moveClones_e1 (A : Option Addr) (n c : Nat) (l : List Nat) (o R C L N D : Nat) (A' : Option Addr) (n' c' : Nat) (l' : List Nat) (off' rr' kk' ld' : Int) (w : World) (hga : greatB n R C = false) (hgb : greatB n' rr' kk' = false) (hA : Row w A (f64s l)) (hA' : Row w A' (f64s l')) (hW : Wds l) (hW' : Wds l') (hl : l.length = n) (hl' : l'.length = n') (hnc : n ≤ c) (hnc' : n' ≤ c') (hn : n ≤ 1000) (hn' : n' ≤ 1000) (hbd : o < 9223372036854775808 ∧ R ≤ 20 ∧ C ≤ 20 ∧ L < 9223372036854775808) (hN : R * C = N) (hD : max 1 R = D) (hL : 1 ≤ L) (hR : R ≤ L) (hr : R = 0 ∨ C = 0 ∨ o + (C - 1) * L + (R - 1) < n) (ho' : I64 off') (hr' : I64 rr') (hk' : I64 kk') (hi' : I64 ld') (hgd' : matB n' off' rr' kk' ld' = false) :
    Calls Try.prog 4 #[mat A n c o R C L, mat A' n' c' off' rr' kk' ld'] w fun e w' => e = .returned (.bool true) ∧ Below w.heap.size w w' := by
  have HGa := Lib.hid (fun W => great_any A n c o R C L W)
  rw [hga] at HGa
  have HGb := Lib.hid (fun W => great_any A' n' c' off' rr' kk' ld' W)
  rw [hgb] at HGb

  have hNb : N ≤ 400 := by
    have h1 : R * C ≤ 20 * 20 := Nat.mul_le_mul hbd.2.1 hbd.2.2.1
    rw [hN] at h1; exact h1
  have hbd2 : o < 9223372036854775808 ∧ R < 9223372036854775808 ∧ C < 9223372036854775808 ∧ L < 9223372036854775808 := by omega
  have hcg := clone_good hN hD
  have HFm := Lib.hid (fun W (hb : Below w.heap.size w W) => mfin_any A n c l o R C L N W (hA.below hb) hW hl hnc (by omega) hbd2 hN hL hR hr)
  have HFr := Lib.hid (fun W (hb : Below w.heap.size w W) => rmfin_any A n c l o R C L N W (hA.below hb) hW hl (by omega) hbd2 hN hL hR hr)
  have HCl := Lib.hid (fun W (hb : Below w.heap.size w W) => clone_ok A n c l o R C L N D W (hA.below hb) hl hnc (by omega) ⟨hbd.1, by omega, by omega, hbd.2.2.2⟩ hN hD hL hR hr)
  have HGd := Lib.hid (fun W => rgood_any A n c o R C L W (by omega) (by unfold I64; omega) (by unfold I64; omega) (by unfold I64; omega) (by unfold I64; omega))
  rw [mat_right hL hR hr] at HGd
  have HGc := Lib.hid (fun W (g : Nat) => show Calls Try.prog 12 #[mat (some ⟨g, 0, none⟩) N N 0 R C D] W fun e w' => e = .returned (.bool true) ∧ Below W.heap.size W w' from by
    have := rgood_any (some ⟨g, 0, none⟩) N N 0 R C D W (by omega) (by unfold I64; omega) (by unfold I64; omega) (by unfold I64; omega) (by unfold I64; omega)
    rw [show matB N 0 (R : Int) (C : Int) (D : Int) = true from mat_right (o := 0) hcg.1 hcg.2.1 hcg.2.2] at this; exact this)
  have hXl : (colsL l o R L C).length = N := by rw [colsL_length, Nat.mul_comm]; exact hN
  have HOc := Lib.hid (fun W (g : Nat) (h : Row W (some ⟨g, 0, none⟩) (f64s (colsL l o R L C))) => show Calls Try.prog 14 #[mat (some ⟨g, 0, none⟩) N N 0 R C D] W fun e w' => ∃ g T, e = .returned (tbl R C g N N) ∧ Tab (colsL l o R L C) 0 R C D N T ∧ Blk w' g 48 (f64s T).toArray ∧ W.heap.size ≤ g ∧ Below W.heap.size W w' from rof_blk (some ⟨g, 0, none⟩) N N (colsL l o R L C) 0 R C D N W h hXl (by omega) hN (by omega) hbd2.2.1 hbd2.2.2.1 hcg.2.2)
  have HOa := Lib.hid (fun W (hb' : Below w.heap.size w W) => rof_blk A n c l o R C L N W (hA.below hb') hl (by omega) hN (by omega) hbd2.2.1 hbd2.2.2.1 hr)
  have HAT := Lib.hid (fun W (g g' : Nat) (T U : List Nat) (hT : Tab (colsL l o R L C) 0 R C D N T) (hU : Tab l o R C L N U) (h : Row W (some ⟨g, 0, none⟩) (f64s T)) (h' : Row W (some ⟨g', 0, none⟩) (f64s U)) => show Calls Try.prog 13 #[.slice (some ⟨g, 0, none⟩) N N, .slice (some ⟨g', 0, none⟩) N N] W fun e w' => e = .returned (.bool true) ∧ Below W.heap.size W w' from by
    have e := tab_same hN hD hT hU
    subst e
    have := rall_any (some ⟨g, 0, none⟩) (some ⟨g', 0, none⟩) N N T T W (tab_wds hU hN hW) (tab_wds hU hN hW) h h' (by rw [hU.1, hN]; omega) (Alike.refl T)
    rw [hU.1, hN] at this; exact this)
  have HAp := Lib.hid (fun W (hb : Below w.heap.size w W) => show Calls Try.prog 9 #[mat A n c o R C L] W fun e w' => ∃ g c', e = .returned (mat (some ⟨g, 0, none⟩) n c' o R C L) ∧ Own w' g l ∧ W.heap.size ≤ g ∧ n ≤ c' ∧ c' < 9223372036854775808 ∧ Below W.heap.size W w' from by
    have := rapart_any A c l o R C L W (hA.below hb) (by omega)
    rw [hl] at this; exact this)
  have HAll := Lib.hid (fun W (x : List Nat) (A B : Option Addr) (c d : Nat) (hx : Wds x ∧ x.length = n) (h1 : Row W A (f64s x)) (h2 : Row W B (f64s x)) => show Calls Try.prog 13 #[.slice A n c, .slice B n d] W fun e w' => e = .returned (.bool true) ∧ Below W.heap.size W w' from by
    have := rall_any A B c d x x W hx.1 hx.1 h1 h2 (by omega) (Alike.refl x)
    rw [hx.2] at this; exact this)
  have HA := Lib.hid hA
  have HWl := Lib.hid (show Wds l ∧ l.length = n from ⟨hW, hl⟩)
  obtain ⟨FB, hFB⟩ : ∃ FB, finsB l o R C L = FB := ⟨_, rfl⟩
  rw [hFB] at HFm HFr

  have HGo := Lib.hid (fun W => rgood_any A' n' c' off' rr' kk' ld' W (by omega) ho' hr' hk' hi')
  rw [hgd'] at HGo
  have hP : intoI n o R C L n' off' rr' kk' ld' = 1 := by unfold intoI; rw [hgd']; simp
  have HIe := Lib.hid (fun W (g c2 : Nat) => into_err (some ⟨g, 0, none⟩) A' n c2 o R C L n' c' off' rr' kk' ld' W (by omega) (by omega) (by unfold I64; omega) (by unfold I64; omega) (by unfold I64; omega) (by unfold I64; omega) ho' hr' hk' hi' 1 hP (by omega))
  clear hga hgb hA hA' hW hW' hl hl' hnc hnc' hn hn' hbd hbd2 hcg hN hD hL hR hr hXl hNb hFB ho' hr' hk' hi' hgd' hP
  unfold mat at *
  go_enter Try.func4, Try.ntmps4
  have Ha0 := Lib.hid ((Blk.new w 24 #[.slice A n c, .int .i64 o, .int .i64 R, .int .i64 C, .int .i64 L]).alloc (.cells #[.slice A' n' c', .int .i64 off', .int .i64 rr', .int .i64 kk', .int .i64 ld'] 24))
  have Hb0 := Lib.hid (Blk.new_ (w.alloc (.cells #[.slice A n c, .int .i64 o, .int .i64 R, .int .i64 C, .int .i64 L] 24)) 24 #[.slice A' n' c', .int .i64 off', .int .i64 rr', .int .i64 kk', .int .i64 ld'] (w.heap.size + 1) (by simp))
  have HB0 := Lib.hid (((Below.refl w.heap.size w).alloc (Nat.le_refl _) (.cells #[.slice A n c, .int .i64 o, .int .i64 R, .int .i64 C, .int .i64 L] 24)).alloc (by simp) (.cells #[.slice A' n' c', .int .i64 off', .int .i64 rr', .int .i64 kk', .int .i64 ld'] 24))
  go_wp2_with fail
  refine (awake4_any _).mono ?_
  rintro e w1 ⟨rfl, hb⟩
  have Ha1 := Lib.hid (Ha0.out.nxt hb)
  have Hb1 := Lib.hid (Hb0.out.nxt hb)
  have HB1 := Lib.hid (below_nx HB0.out hb)
  clear hb
  obtain ⟨a0, a1, a2, a3, a4⟩ := cells5 Ha1.out
  obtain ⟨b0, b1, b2, b3, b4⟩ := cells5 Hb1.out
  go_wp2_with fail
  refine (HGa.out _).mono ?_
  rintro e w2 ⟨rfl, hb⟩
  have Ha2 := Lib.hid (Ha1.out.nxt hb)
  have Hb2 := Lib.hid (Hb1.out.nxt hb)
  have HB2 := Lib.hid (below_nx HB1.out hb)
  clear hb
  clear a0 a1 a2 a3 a4 b0 b1 b2 b3 b4
  obtain ⟨a0, a1, a2, a3, a4⟩ := cells5 Ha2.out
  obtain ⟨b0, b1, b2, b3, b4⟩ := cells5 Hb2.out
  go_wp2_with fail
  refine (HGb.out _).mono ?_
  rintro e w3 ⟨rfl, hb⟩
  have Ha3 := Lib.hid (Ha2.out.nxt hb)
  have Hb3 := Lib.hid (Hb2.out.nxt hb)
  have HB3 := Lib.hid (below_nx HB2.out hb)
  clear hb
  clear a0 a1 a2 a3 a4 b0 b1 b2 b3 b4
  obtain ⟨a0, a1, a2, a3, a4⟩ := cells5 Ha3.out
  obtain ⟨b0, b1, b2, b3, b4⟩ := cells5 Hb3.out
  go_wp2_with fail
  refine wp_region_inv [19, 20, 21, 22, 23] (fun d s W => (d 0 = true → s 19 = .agg #[.slice A n c, .int .i64 o, .int .i64 R, .int .i64 C, .int .i64 L]) ∧ (d 1 = true → s 20 = .bool FB) ∧ (d 2 = true → s 21 = .agg #[.slice A n c, .int .i64 o, .int .i64 R, .int .i64 C, .int .i64 L]) ∧ (d 3 = true → s 22 = .bool FB) ∧ (d 4 = true → s 23 = .bool false) ∧ Below w3.heap.size w3 W)
    rfl (by kernel_rfl) ?_ ?_ ?_
  · exact ⟨by simp, by simp, by simp, by simp, by simp, (Below.refl _ _).drew⟩
  · refine ⟨?_, ?_, ?_, ?_, ?_, trivial⟩
    all_goals
      intro d s W hJ hfr hd hdep
      simp only [List.mem_cons, forall_eq_or_imp, List.not_mem_nil, false_implies, implies_true, and_true, Region.binds] at hdep
      have f2 := hfr 2 (by decide)
      simp at f2 hdep
      obtain ⟨h0, h1, h2, h3, h4, hT⟩ := hJ
      unfold OpSteps
    · obtain ⟨p0, p1, p2, p3, p4⟩ := cells5 (Ha3.out.nxt hT)
      simp [go_sem, evS, f2, p0, p1, p2, p3, p4]
      exact ⟨fun _ => by simp [sput], fun h => by simpa [sput] using h1 (by simpa [did] using h), fun h => by simpa [sput] using h2 (by simpa [did] using h), fun h => by simpa [sput] using h3 (by simpa [did] using h), fun h => by simpa [sput] using h4 (by simpa [did] using h), hT⟩
    · have fa0 := h0 (by simp [hdep])
      simp [go_sem, evS, f2, fa0]
      refine (HFm.out W (below_nx HB3.out hT)).mono ?_
      rintro e W' ⟨rfl, hb⟩
      refine ⟨_, rfl, ?_⟩
      exact ⟨fun h => by simpa [sput] using h0 (by simpa [did] using h), fun _ => by simp [sput], fun h => by simpa [sput] using h2 (by simpa [did] using h), fun h => by simpa [sput] using h3 (by simpa [did] using h), fun h => by simpa [sput] using h4 (by simpa [did] using h), below_nx hT hb⟩
    · obtain ⟨p0, p1, p2, p3, p4⟩ := cells5 (Ha3.out.nxt hT)
      simp [go_sem, evS, f2, p0, p1, p2, p3, p4]
      exact ⟨fun h => by simpa [sput] using h0 (by simpa [did] using h), fun h => by simpa [sput] using h1 (by simpa [did] using h), fun _ => by simp [sput], fun h => by simpa [sput] using h3 (by simpa [did] using h), fun h => by simpa [sput] using h4 (by simpa [did] using h), hT⟩
    · have fa2 := h2 (by simp [hdep])
      simp [go_sem, evS, f2, fa2]
      refine (HFr.out W (below_nx HB3.out hT)).mono ?_
      rintro e W' ⟨rfl, hb⟩
      refine ⟨_, rfl, ?_⟩
      exact ⟨fun h => by simpa [sput] using h0 (by simpa [did] using h), fun h => by simpa [sput] using h1 (by simpa [did] using h), fun h => by simpa [sput] using h2 (by simpa [did] using h), fun _ => by simp [sput], fun h => by simpa [sput] using h4 (by simpa [did] using h), below_nx hT hb⟩
    · have fa1 := h1 (by simp [hdep])
      have fa3 := h3 (by simp [hdep])
      simp [go_sem, evS, f2, fa1, fa3]
      exact ⟨fun h => by simpa [sput] using h0 (by simpa [did] using h), fun h => by simpa [sput] using h1 (by simpa [did] using h), fun h => by simpa [sput] using h2 (by simpa [did] using h), fun h => by simpa [sput] using h3 (by simpa [did] using h), fun _ => by simp [sput], hT⟩
  intro d s W hJ hd
  obtain ⟨h0, h1, h2, h3, h4, hT⟩ := hJ
  have hs23 := h4 (hd 4 (by decide))
  have hb : Below w3.heap.size w3 W := hT
  clear h0 h1 h2 h3 h4 hT hd
  have Ha4 := Lib.hid (Ha3.out.nxt hb)
  have Hb4 := Lib.hid (Hb3.out.nxt hb)
  have HB4 := Lib.hid (below_nx HB3.out hb)
  clear hb
  clear a0 a1 a2 a3 a4 b0 b1 b2 b3 b4
  obtain ⟨a0, a1, a2, a3, a4⟩ := cells5 Ha4.out
  obtain ⟨b0, b1, b2, b3, b4⟩ := cells5 Hb4.out
  simp [setAll, hs23]
  clear hs23
  generalize s 19 = s19
  generalize s 20 = s20
  generalize s 21 = s21
  generalize s 22 = s22
  generalize W = w4 at *
  go_wp2_with fail
  refine (HCl.out _ HB4.out).mono ?_
  rintro e w5 ⟨g1, rfl, hX, _, hb⟩
  have HK0 := Lib.hid hX
  clear hX
  have Ha5 := Lib.hid ((Ha4.out.nxt hb).alloc (.cells #[.slice (some ⟨g1, 0, none⟩) N N, .int .i64 0, .int .i64 R, .int .i64 C, .int .i64 D] 24))
  have Hb5 := Lib.hid ((Hb4.out.nxt hb).alloc (.cells #[.slice (some ⟨g1, 0, none⟩) N N, .int .i64 0, .int .i64 R, .int .i64 C, .int .i64 D] 24))
  have Hd5 := Lib.hid (Blk.new w5 24 #[.slice (some ⟨g1, 0, none⟩) N N, .int .i64 0, .int .i64 R, .int .i64 C, .int .i64 D])
  have HB5 := Lib.hid (below_al (below_nx HB4.out hb) (o := (.cells #[.slice (some ⟨g1, 0, none⟩) N N, .int .i64 0, .int .i64 R, .int .i64 C, .int .i64 D] 24)))
  have HK5 := Lib.hid (HK0.out.nxt (below_one (W := w5) (o := (.cells #[.slice (some ⟨g1, 0, none⟩) N N, .int .i64 0, .int .i64 R, .int .i64 C, .int .i64 D] 24))))
  clear hb
  clear a0 a1 a2 a3 a4 b0 b1 b2 b3 b4
  obtain ⟨a0, a1, a2, a3, a4⟩ := cells5 Ha5.out
  obtain ⟨b0, b1, b2, b3, b4⟩ := cells5 Hb5.out
  obtain ⟨d0, d1, d2, d3, d4⟩ := cells5 Hd5.out
  go_wp2_with fail
  refine (HGd.out _).mono ?_
  rintro e w6 ⟨rfl, hb⟩
  have Ha6 := Lib.hid (Ha5.out.nxt hb)
  have Hb6 := Lib.hid (Hb5.out.nxt hb)
  have Hd6 := Lib.hid (Hd5.out.nxt hb)
  have HK6 := Lib.hid (HK5.out.nxt hb)
  have HB6 := Lib.hid (below_nx HB5.out hb)
  clear hb
  clear a0 a1 a2 a3 a4 b0 b1 b2 b3 b4 d0 d1 d2 d3 d4
  obtain ⟨a0, a1, a2, a3, a4⟩ := cells5 Ha6.out
  obtain ⟨b0, b1, b2, b3, b4⟩ := cells5 Hb6.out
  obtain ⟨d0, d1, d2, d3, d4⟩ := cells5 Hd6.out
  go_wp2_with fail
  have HBd := Lib.hid (Below.refl w6.heap.size w6).drew
  unfold mat tbl at *
  go_region_held3 (fun w' => w'.cell? ⟨w5.heap.size, 0, none⟩ = some (.slice (some ⟨g1, 0, none⟩) N N) ∧ w'.cell? ⟨w5.heap.size, 1, none⟩ = some (.int .i64 0) ∧ w'.cell? ⟨w5.heap.size, 2, none⟩ = some (.int .i64 R) ∧ w'.cell? ⟨w5.heap.size, 3, none⟩ = some (.int .i64 C) ∧ w'.cell? ⟨w5.heap.size, 4, none⟩ = some (.int .i64 D) ∧ w'.cell? ⟨w.heap.size, 0, none⟩ = some (.slice A n c) ∧ w'.cell? ⟨w.heap.size, 1, none⟩ = some (.int .i64 o) ∧ w'.cell? ⟨w.heap.size, 2, none⟩ = some (.int .i64 R) ∧ w'.cell? ⟨w.heap.size, 3, none⟩ = some (.int .i64 C) ∧ w'.cell? ⟨w.heap.size, 4, none⟩ = some (.int .i64 L) ∧ Below w6.heap.size w6 w')
    (first | exact ⟨d0, d1, d2, d3, d4, a0, a1, a2, a3, a4, HBd.out⟩ | (with_reducible exact held10 ‹_ ∧ _ ∧ _ ∧ _ ∧ _ ∧ _ ∧ _ ∧ _ ∧ _ ∧ _ ∧ Below w6.heap.size w6 _› hbA))
    (first
      | (go_at_call 12; (with_reducible refine (HGc.out _ _).mono ?_); rintro e1 wA ⟨rfl, hbA⟩; skip)
      | (go_at_call 14; (with_reducible refine (HOc.out _ _ ((row_of_blk HK6.out).below (‹_ ∧ _ ∧ _ ∧ _ ∧ _ ∧ _ ∧ _ ∧ _ ∧ _ ∧ _ ∧ Below w6.heap.size w6 _›).2.2.2.2.2.2.2.2.2.2)).mono ?_); rintro e1 wA ⟨g5, T5, rfl, hT5, hk5, _, hbA⟩; have hk5' := row_of_blk hk5; skip)
      | (go_at_call 14; (with_reducible refine (HOa.out _ (HB6.out.trans (((‹_ ∧ _ ∧ _ ∧ _ ∧ _ ∧ _ ∧ _ ∧ _ ∧ _ ∧ _ ∧ Below w6.heap.size w6 _›).2.2.2.2.2.2.2.2.2.2).mono HB6.out.size))).mono ?_); rintro e1 wA ⟨g6, T6, rfl, hT6, hk6, _, hbA⟩; have hk5'' := hk5'.below hbA; have hk6' := row_of_blk hk6; skip)
      | (go_at_call 13; (with_reducible refine (HAT.out _ g5 g6 T5 T6 hT5 hT6 hk5'' hk6').mono ?_); rintro e1 wA ⟨rfl, hbA⟩; skip))
  have hb := (‹_ ∧ _ ∧ _ ∧ _ ∧ _ ∧ _ ∧ _ ∧ _ ∧ _ ∧ _ ∧ Below w6.heap.size w6 _›).2.2.2.2.2.2.2.2.2.2
  clear hT5 hT6 hk5 hk6 hk5' hk5'' hk6'
  rename_i w7
  have Ha7 := Lib.hid (Ha6.out.nxt hb)
  have Hb7 := Lib.hid (Hb6.out.nxt hb)
  have Hd7 := Lib.hid (Hd6.out.nxt hb)
  have HK7 := Lib.hid (HK6.out.nxt hb)
  have HB7 := Lib.hid (below_nx HB6.out hb)
  clear hb
  clear a0 a1 a2 a3 a4 b0 b1 b2 b3 b4 d0 d1 d2 d3 d4
  obtain ⟨a0, a1, a2, a3, a4⟩ := cells5 Ha7.out
  obtain ⟨b0, b1, b2, b3, b4⟩ := cells5 Hb7.out
  obtain ⟨d0, d1, d2, d3, d4⟩ := cells5 Hd7.out
  go_wp2_with fail
  refine (HAp.out _ HB7.out).mono ?_
  rintro e w8 ⟨g2, c2, rfl, ho2, hg2, _, _, hb⟩
  have HgA := Lib.hid (show w.heap.size + 1 < g2 ∧ w5.heap.size < g2 from ⟨Nat.lt_of_lt_of_le Hb7.out.lt hg2, Nat.lt_of_lt_of_le Hd7.out.lt hg2⟩)
  have Ha8 := Lib.hid ((Ha7.out.nxt hb).alloc (.cells #[.slice (some ⟨g2, 0, none⟩) n c2, .int .i64 o, .int .i64 R, .int .i64 C, .int .i64 L] 24))
  have Hb8 := Lib.hid ((Hb7.out.nxt hb).alloc (.cells #[.slice (some ⟨g2, 0, none⟩) n c2, .int .i64 o, .int .i64 R, .int .i64 C, .int .i64 L] 24))
  have Hd8 := Lib.hid ((Hd7.out.nxt hb).alloc (.cells #[.slice (some ⟨g2, 0, none⟩) n c2, .int .i64 o, .int .i64 R, .int .i64 C, .int .i64 L] 24))
  have Hx8 := Lib.hid (Blk.new w8 24 #[.slice (some ⟨g2, 0, none⟩) n c2, .int .i64 o, .int .i64 R, .int .i64 C, .int .i64 L])
  have HB8 := Lib.hid (below_al (below_nx HB7.out hb) (o := (.cells #[.slice (some ⟨g2, 0, none⟩) n c2, .int .i64 o, .int .i64 R, .int .i64 C, .int .i64 L] 24)))
  have Hu8 := Lib.hid (ho2.nxt (below_one (W := w8) (o := (.cells #[.slice (some ⟨g2, 0, none⟩) n c2, .int .i64 o, .int .i64 R, .int .i64 C, .int .i64 L] 24))))
  clear ho2 hg2
  clear hb
  clear a0 a1 a2 a3 a4 b0 b1 b2 b3 b4 d0 d1 d2 d3 d4
  obtain ⟨a0, a1, a2, a3, a4⟩ := cells5 Ha8.out
  obtain ⟨b0, b1, b2, b3, b4⟩ := cells5 Hb8.out
  obtain ⟨d0, d1, d2, d3, d4⟩ := cells5 Hd8.out
  obtain ⟨x0, x1, x2, x3, x4⟩ := cells5 Hx8.out
  go_wp2_with fail
  refine (HIe.out _ _ _).mono ?_
  rintro e w9 ⟨rfl, hb⟩
  have Ha9 := Lib.hid (Ha8.out.nxt hb)
  have Hb9 := Lib.hid (Hb8.out.nxt hb)
  have Hd9 := Lib.hid (Hd8.out.nxt hb)
  have Hx9 := Lib.hid (Hx8.out.nxt hb)
  have Hu9 := Lib.hid (Hu8.out.nxt hb)
  have HB9 := Lib.hid (below_nx HB8.out hb)
  clear hb
  clear a0 a1 a2 a3 a4 b0 b1 b2 b3 b4 d0 d1 d2 d3 d4 x0 x1 x2 x3 x4
  obtain ⟨a0, a1, a2, a3, a4⟩ := cells5 Ha9.out
  obtain ⟨b0, b1, b2, b3, b4⟩ := cells5 Hb9.out
  obtain ⟨d0, d1, d2, d3, d4⟩ := cells5 Hd9.out
  obtain ⟨x0, x1, x2, x3, x4⟩ := cells5 Hx9.out
  go_wp2_with fail
  refine (HGo.out _).mono ?_
  rintro e w10 ⟨rfl, hb⟩
  have Ha10 := Lib.hid (Ha9.out.nxt hb)
  have Hb10 := Lib.hid (Hb9.out.nxt hb)
  have Hd10 := Lib.hid (Hd9.out.nxt hb)
  have Hx10 := Lib.hid (Hx9.out.nxt hb)
  have Hu10 := Lib.hid (Hu9.out.nxt hb)
  have HB10 := Lib.hid (below_nx HB9.out hb)
  clear hb
  clear a0 a1 a2 a3 a4 b0 b1 b2 b3 b4 d0 d1 d2 d3 d4 x0 x1 x2 x3 x4
  obtain ⟨a0, a1, a2, a3, a4⟩ := cells5 Ha10.out
  obtain ⟨b0, b1, b2, b3, b4⟩ := cells5 Hb10.out
  obtain ⟨d0, d1, d2, d3, d4⟩ := cells5 Hd10.out
  obtain ⟨x0, x1, x2, x3, x4⟩ := cells5 Hx10.out
  go_wp2_with fail
  refine (HGo.out _).mono ?_
  rintro e w11 ⟨rfl, hb⟩
  have Ha11 := Lib.hid (Ha10.out.nxt hb)
  have Hb11 := Lib.hid (Hb10.out.nxt hb)
  have Hd11 := Lib.hid (Hd10.out.nxt hb)
  have Hx11 := Lib.hid (Hx10.out.nxt hb)
  have Hu11 := Lib.hid (Hu10.out.nxt hb)
  have HB11 := Lib.hid (below_nx HB10.out hb)
  clear hb
  clear a0 a1 a2 a3 a4 b0 b1 b2 b3 b4 d0 d1 d2 d3 d4 x0 x1 x2 x3 x4
  obtain ⟨a0, a1, a2, a3, a4⟩ := cells5 Ha11.out
  obtain ⟨b0, b1, b2, b3, b4⟩ := cells5 Hb11.out
  obtain ⟨d0, d1, d2, d3, d4⟩ := cells5 Hd11.out
  obtain ⟨x0, x1, x2, x3, x4⟩ := cells5 Hx11.out
  go_wp2_with fail
  refine (HAll.out _ _ _ _ _ _ HWl.out Hu11.out.row (HA.out.below HB11.out)).mono ?_
  rintro e w12 ⟨rfl, hb⟩
  have Ha12 := Lib.hid (Ha11.out.nxt hb)
  have Hb12 := Lib.hid (Hb11.out.nxt hb)
  have Hd12 := Lib.hid (Hd11.out.nxt hb)
  have Hx12 := Lib.hid (Hx11.out.nxt hb)
  have Hu12 := Lib.hid (Hu11.out.nxt hb)
  have HB12 := Lib.hid (below_nx HB11.out hb)
  clear hb
  clear a0 a1 a2 a3 a4 b0 b1 b2 b3 b4 d0 d1 d2 d3 d4 x0 x1 x2 x3 x4
  obtain ⟨a0, a1, a2, a3, a4⟩ := cells5 Ha12.out
  obtain ⟨b0, b1, b2, b3, b4⟩ := cells5 Hb12.out
  obtain ⟨d0, d1, d2, d3, d4⟩ := cells5 Hd12.out
  obtain ⟨x0, x1, x2, x3, x4⟩ := cells5 Hx12.out
  go_wp2_with fail
  refine (awake4_any _).mono ?_
  rintro e w13 ⟨rfl, hb⟩
  have Ha13 := Lib.hid (Ha12.out.nxt hb)
  have Hb13 := Lib.hid (Hb12.out.nxt hb)
  have Hd13 := Lib.hid (Hd12.out.nxt hb)
  have Hx13 := Lib.hid (Hx12.out.nxt hb)
  have Hu13 := Lib.hid (Hu12.out.nxt hb)
  have HB13 := Lib.hid (below_nx HB12.out hb)
  clear hb
  clear a0 a1 a2 a3 a4 b0 b1 b2 b3 b4 d0 d1 d2 d3 d4 x0 x1 x2 x3 x4
  obtain ⟨a0, a1, a2, a3, a4⟩ := cells5 Ha13.out
  obtain ⟨b0, b1, b2, b3, b4⟩ := cells5 Hb13.out
  obtain ⟨d0, d1, d2, d3, d4⟩ := cells5 Hd13.out
  obtain ⟨x0, x1, x2, x3, x4⟩ := cells5 Hx13.out
  go_wp2_with fail
  go_ret
  exact ⟨rfl, HB13.out⟩
end Go.Proofs.Ytamndbeffbcppaa
