/-
MoveClones, walked. Conditions: as each says.
-/
import Derived.Test.YtamndbeffbcppaaZd
import Derived.Test.YtamndbeffbcppaaZc
set_option linter.unusedVariables false
set_option linter.unusedSimpArgs false
set_option linter.unnecessarySimpa false
namespace Go.Proofs.Ytamndbeffbcppaa
open Go.RowKit
attribute [local go_sem ↓] Go.wp_at_zero Go.wp_at_succ


set_option maxRecDepth 100000 in
set_option maxHeartbeats 3000000 in
theorem moveClones_bad (A : Option Addr) (n c : Nat) (l : List Nat) (off rr kk ld : Int) (A' : Option Addr) (n' c' : Nat) (l' : List Nat) (off' rr' kk' ld' : Int) (w : World) (hga : greatB n rr kk = false) (hgb : greatB n' rr' kk' = false) (hA : Row w A (f64s l)) (hA' : Row w A' (f64s l')) (hW : Wds l) (hW' : Wds l') (hl : l.length = n) (hl' : l'.length = n') (hnc : n ≤ c) (hnc' : n' ≤ c') (hn : n ≤ 1000) (hn' : n' ≤ 1000) (ho : I64 off) (hr : I64 rr) (hk : I64 kk) (hi : I64 ld) (ho' : I64 off') (hr' : I64 rr') (hk' : I64 kk') (hi' : I64 ld') (hgd : matB n off rr kk ld = false) :
    Calls Try.prog 4 #[mat A n c off rr kk ld, mat A' n' c' off' rr' kk' ld'] w fun e w' => e = .returned (.bool true) ∧ Below w.heap.size w w' := by
  have HGa := Lib.hid (fun W => great_any A n c off rr kk ld W)
  rw [hga] at HGa
  have HGb := Lib.hid (fun W => great_any A' n' c' off' rr' kk' ld' W)
  rw [hgb] at HGb

  have HFm := Lib.hid (fun W (hb : Below w.heap.size w W) => (fin_bad A n c off rr kk ld W (by omega) ho hr hk hi hgd).1)
  have HFr := Lib.hid (fun W (hb : Below w.heap.size w W) => (fin_bad A n c off rr kk ld W (by omega) ho hr hk hi hgd).2)
  have HCl := Lib.hid (fun W => clone_err A n c off rr kk ld W (by omega) ho hr hk hi hgd)
  have HGd := Lib.hid (fun W => rgood_any A n c off rr kk ld W (by omega) ho hr hk hi)
  rw [hgd] at HGd
  have hP : intoI n off rr kk ld n' off' rr' kk' ld' = 1 := by unfold intoI; rw [hgd]; rfl
  have HIe := Lib.hid (fun W => into_err A A' n c off rr kk ld n' c' off' rr' kk' ld' W (by omega) (by omega) ho hr hk hi ho' hr' hk' hi' 1 hP (by omega))
  clear hga hgb hA hA' hW hW' hl hl' hnc hnc' hn hn' ho hr hk hi ho' hr' hk' hi' hgd hP
  obtain ⟨FB, hFB⟩ : ∃ FB, false = FB := ⟨_, rfl⟩
  rw [hFB] at HFm HFr
  clear hFB
  unfold mat at *
  go_enter Try.func4, Try.ntmps4
  have Ha0 := Lib.hid ((Blk.new w 24 #[.slice A n c, .int .i64 off, .int .i64 rr, .int .i64 kk, .int .i64 ld]).alloc (.cells #[.slice A' n' c', .int .i64 off', .int .i64 rr', .int .i64 kk', .int .i64 ld'] 24))
  have Hb0 := Lib.hid (Blk.new_ (w.alloc (.cells #[.slice A n c, .int .i64 off, .int .i64 rr, .int .i64 kk, .int .i64 ld] 24)) 24 #[.slice A' n' c', .int .i64 off', .int .i64 rr', .int .i64 kk', .int .i64 ld'] (w.heap.size + 1) (by simp))
  have HB0 := Lib.hid (((Below.refl w.heap.size w).alloc (Nat.le_refl _) (.cells #[.slice A n c, .int .i64 off, .int .i64 rr, .int .i64 kk, .int .i64 ld] 24)).alloc (by simp) (.cells #[.slice A' n' c', .int .i64 off', .int .i64 rr', .int .i64 kk', .int .i64 ld'] 24))
  go_wp2_with fail
  refine (awake4_any _).mono ?_
  rintro e w1 ⟨rfl, hb⟩
  have Ha1 := Lib.hid (Ha0.out.nxt hb)
  have Hb1 := Lib.hid (Hb0.out.nxt hb)
  have HB1 := Lib.hid (below_nx HB0.out hb)
  clear hb
  obtain ⟨a0, a1, a2, a3, a4⟩ := cells5 Ha1.out
  obtain ⟨b0, b1, b2, b3, b4⟩ := cells5 Hb1.out
  go_wp2_with fail
  refine (HGa.out _).mono ?_
  rintro e w2 ⟨rfl, hb⟩
  have Ha2 := Lib.hid (Ha1.out.nxt hb)
  have Hb2 := Lib.hid (Hb1.out.nxt hb)
  have HB2 := Lib.hid (below_nx HB1.out hb)
  clear hb
  clear a0 a1 a2 a3 a4 b0 b1 b2 b3 b4
  obtain ⟨a0, a1, a2, a3, a4⟩ := cells5 Ha2.out
  obtain ⟨b0, b1, b2, b3, b4⟩ := cells5 Hb2.out
  go_wp2_with fail
  refine (HGb.out _).mono ?_
  rintro e w3 ⟨rfl, hb⟩
  have Ha3 := Lib.hid (Ha2.out.nxt hb)
  have Hb3 := Lib.hid (Hb2.out.nxt hb)
  have HB3 := Lib.hid (below_nx HB2.out hb)
  clear hb
  clear a0 a1 a2 a3 a4 b0 b1 b2 b3 b4
  obtain ⟨a0, a1, a2, a3, a4⟩ := cells5 Ha3.out
  obtain ⟨b0, b1, b2, b3, b4⟩ := cells5 Hb3.out
  go_wp2_with fail
  refine wp_region_inv [19, 20, 21, 22, 23] (fun d s W => (d 0 = true → s 19 = .agg #[.slice A n c, .int .i64 off, .int .i64 rr, .int .i64 kk, .int .i64 ld]) ∧ (d 1 = true → s 20 = .bool FB) ∧ (d 2 = true → s 21 = .agg #[.slice A n c, .int .i64 off, .int .i64 rr, .int .i64 kk, .int .i64 ld]) ∧ (d 3 = true → s 22 = .bool FB) ∧ (d 4 = true → s 23 = .bool false) ∧ Below w3.heap.size w3 W)
    rfl (by kernel_rfl) ?_ ?_ ?_
  · exact ⟨by simp, by simp, by simp, by simp, by simp, (Below.refl _ _).drew⟩
  · refine ⟨?_, ?_, ?_, ?_, ?_, trivial⟩
    all_goals
      intro d s W hJ hfr hd hdep
      simp only [List.mem_cons, forall_eq_or_imp, List.not_mem_nil, false_implies, implies_true, and_true, Region.binds] at hdep
      have f2 := hfr 2 (by decide)
      simp at f2 hdep
      obtain ⟨h0, h1, h2, h3, h4, hT⟩ := hJ
      unfold OpSteps
    · obtain ⟨p0, p1, p2, p3, p4⟩ := cells5 (Ha3.out.nxt hT)
      simp [go_sem, evS, f2, p0, p1, p2, p3, p4]
      exact ⟨fun _ => by simp [sput], fun h => by simpa [sput] using h1 (by simpa [did] using h), fun h => by simpa [sput] using h2 (by simpa [did] using h), fun h => by simpa [sput] using h3 (by simpa [did] using h), fun h => by simpa [sput] using h4 (by simpa [did] using h), hT⟩
    · have fa0 := h0 (by simp [hdep])
      simp [go_sem, evS, f2, fa0]
      refine (HFm.out W (below_nx HB3.out hT)).mono ?_
      rintro e W' ⟨rfl, hb⟩
      refine ⟨_, rfl, ?_⟩
      exact ⟨fun h => by simpa [sput] using h0 (by simpa [did] using h), fun _ => by simp [sput], fun h => by simpa [sput] using h2 (by simpa [did] using h), fun h => by simpa [sput] using h3 (by simpa [did] using h), fun h => by simpa [sput] using h4 (by simpa [did] using h), below_nx hT hb⟩
    · obtain ⟨p0, p1, p2, p3, p4⟩ := cells5 (Ha3.out.nxt hT)
      simp [go_sem, evS, f2, p0, p1, p2, p3, p4]
      exact ⟨fun h => by simpa [sput] using h0 (by simpa [did] using h), fun h => by simpa [sput] using h1 (by simpa [did] using h), fun _ => by simp [sput], fun h => by simpa [sput] using h3 (by simpa [did] using h), fun h => by simpa [sput] using h4 (by simpa [did] using h), hT⟩
    · have fa2 := h2 (by simp [hdep])
      simp [go_sem, evS, f2, fa2]
      refine (HFr.out W (below_nx HB3.out hT)).mono ?_
      rintro e W' ⟨rfl, hb⟩
      refine ⟨_, rfl, ?_⟩
      exact ⟨fun h => by simpa [sput] using h0 (by simpa [did] using h), fun h => by simpa [sput] using h1 (by simpa [did] using h), fun h => by simpa [sput] using h2 (by simpa [did] using h), fun _ => by simp [sput], fun h => by simpa [sput] using h4 (by simpa [did] using h), below_nx hT hb⟩
    · have fa1 := h1 (by simp [hdep])
      have fa3 := h3 (by simp [hdep])
      simp [go_sem, evS, f2, fa1, fa3]
      exact ⟨fun h => by simpa [sput] using h0 (by simpa [did] using h), fun h => by simpa [sput] using h1 (by simpa [did] using h), fun h => by simpa [sput] using h2 (by simpa [did] using h), fun h => by simpa [sput] using h3 (by simpa [did] using h), fun _ => by simp [sput], hT⟩
  intro d s W hJ hd
  obtain ⟨h0, h1, h2, h3, h4, hT⟩ := hJ
  have hs23 := h4 (hd 4 (by decide))
  have hb : Below w3.heap.size w3 W := hT
  clear h0 h1 h2 h3 h4 hT hd
  have Ha4 := Lib.hid (Ha3.out.nxt hb)
  have Hb4 := Lib.hid (Hb3.out.nxt hb)
  have HB4 := Lib.hid (below_nx HB3.out hb)
  clear hb
  clear a0 a1 a2 a3 a4 b0 b1 b2 b3 b4
  obtain ⟨a0, a1, a2, a3, a4⟩ := cells5 Ha4.out
  obtain ⟨b0, b1, b2, b3, b4⟩ := cells5 Hb4.out
  simp [setAll, hs23]
  clear hs23
  generalize s 19 = s19
  generalize s 20 = s20
  generalize s 21 = s21
  generalize s 22 = s22
  generalize W = w4 at *
  go_wp2_with fail
  refine (HCl.out _).mono ?_
  rintro e w5 ⟨rfl, hb⟩
  have Ha5 := Lib.hid ((Ha4.out.nxt hb).alloc (.cells #[.slice none 0 0, .int .i64 0, .int .i64 0, .int .i64 0, .int .i64 0] 24))
  have Hb5 := Lib.hid ((Hb4.out.nxt hb).alloc (.cells #[.slice none 0 0, .int .i64 0, .int .i64 0, .int .i64 0, .int .i64 0] 24))
  have Hd5 := Lib.hid (Blk.new w5 24 #[.slice none 0 0, .int .i64 0, .int .i64 0, .int .i64 0, .int .i64 0])
  have HB5 := Lib.hid (below_al (below_nx HB4.out hb) (o := (.cells #[.slice none 0 0, .int .i64 0, .int .i64 0, .int .i64 0, .int .i64 0] 24)))
  clear hb
  clear a0 a1 a2 a3 a4 b0 b1 b2 b3 b4
  obtain ⟨a0, a1, a2, a3, a4⟩ := cells5 Ha5.out
  obtain ⟨b0, b1, b2, b3, b4⟩ := cells5 Hb5.out
  obtain ⟨d0, d1, d2, d3, d4⟩ := cells5 Hd5.out
  go_wp2_with fail
  refine (HGd.out _).mono ?_
  rintro e w6 ⟨rfl, hb⟩
  have Ha6 := Lib.hid (Ha5.out.nxt hb)
  have Hb6 := Lib.hid (Hb5.out.nxt hb)
  have Hd6 := Lib.hid (Hd5.out.nxt hb)
  have HB6 := Lib.hid (below_nx HB5.out hb)
  clear hb
  clear a0 a1 a2 a3 a4 b0 b1 b2 b3 b4 d0 d1 d2 d3 d4
  obtain ⟨a0, a1, a2, a3, a4⟩ := cells5 Ha6.out
  obtain ⟨b0, b1, b2, b3, b4⟩ := cells5 Hb6.out
  obtain ⟨d0, d1, d2, d3, d4⟩ := cells5 Hd6.out
  go_wp2_with fail
  refine (HIe.out _).mono ?_
  rintro e w7 ⟨rfl, hb⟩
  have Ha7 := Lib.hid (Ha6.out.nxt hb)
  have Hb7 := Lib.hid (Hb6.out.nxt hb)
  have Hd7 := Lib.hid (Hd6.out.nxt hb)
  have HB7 := Lib.hid (below_nx HB6.out hb)
  clear hb
  clear a0 a1 a2 a3 a4 b0 b1 b2 b3 b4 d0 d1 d2 d3 d4
  obtain ⟨a0, a1, a2, a3, a4⟩ := cells5 Ha7.out
  obtain ⟨b0, b1, b2, b3, b4⟩ := cells5 Hb7.out
  obtain ⟨d0, d1, d2, d3, d4⟩ := cells5 Hd7.out
  go_wp2_with fail
  refine (awake4_any _).mono ?_
  rintro e w8 ⟨rfl, hb⟩
  have Ha8 := Lib.hid (Ha7.out.nxt hb)
  have Hb8 := Lib.hid (Hb7.out.nxt hb)
  have Hd8 := Lib.hid (Hd7.out.nxt hb)
  have HB8 := Lib.hid (below_nx HB7.out hb)
  clear hb
  clear a0 a1 a2 a3 a4 b0 b1 b2 b3 b4 d0 d1 d2 d3 d4
  obtain ⟨a0, a1, a2, a3, a4⟩ := cells5 Ha8.out
  obtain ⟨b0, b1, b2, b3, b4⟩ := cells5 Hb8.out
  obtain ⟨d0, d1, d2, d3, d4⟩ := cells5 Hd8.out
  go_wp2_with fail
  go_ret
  exact ⟨rfl, HB8.out⟩
end Go.Proofs.Ytamndbeffbcppaa
/-
MoveClones, walked. Conditions: as each says.
-/
set_option linter.unusedVariables false
set_option linter.unusedSimpArgs false
set_option linter.unnecessarySimpa false
namespace Go.Proofs.Ytamndbeffbcppaa
open Go.RowKit
attribute [local go_sem ↓] Go.wp_at_zero Go.wp_at_succ

theorem held11 {w W w' : World} {b0 o0 b1 o1 b2 o2 b3 o3 b4 o4 b5 o5 b6 o6 b7 o7 b8 o8 b9 o9 b10 o10 : Nat} {v0 v1 v2 v3 v4 v5 v6 v7 v8 v9 v10 : Value} (h : W.cell? ⟨b0, o0, none⟩ = some v0 ∧ W.cell? ⟨b1, o1, none⟩ = some v1 ∧ W.cell? ⟨b2, o2, none⟩ = some v2 ∧ W.cell? ⟨b3, o3, none⟩ = some v3 ∧ W.cell? ⟨b4, o4, none⟩ = some v4 ∧ W.cell? ⟨b5, o5, none⟩ = some v5 ∧ W.cell? ⟨b6, o6, none⟩ = some v6 ∧ W.cell? ⟨b7, o7, none⟩ = some v7 ∧ W.cell? ⟨b8, o8, none⟩ = some v8 ∧ W.cell? ⟨b9, o9, none⟩ = some v9 ∧ W.cell? ⟨b10, o10, none⟩ = some v10 ∧ Below w.heap.size w W) (hb : Below W.heap.size W w') :
    w'.cell? ⟨b0, o0, none⟩ = some v0 ∧ w'.cell? ⟨b1, o1, none⟩ = some v1 ∧ w'.cell? ⟨b2, o2, none⟩ = some v2 ∧ w'.cell? ⟨b3, o3, none⟩ = some v3 ∧ w'.cell? ⟨b4, o4, none⟩ = some v4 ∧ w'.cell? ⟨b5, o5, none⟩ = some v5 ∧ w'.cell? ⟨b6, o6, none⟩ = some v6 ∧ w'.cell? ⟨b7, o7, none⟩ = some v7 ∧ w'.cell? ⟨b8, o8, none⟩ = some v8 ∧ w'.cell? ⟨b9, o9, none⟩ = some v9 ∧ w'.cell? ⟨b10, o10, none⟩ = some v10 ∧ Below w.heap.size w w' :=
  ⟨cell_below h.1 hb, cell_below h.2.1 hb, cell_below h.2.2.1 hb, cell_below h.2.2.2.1 hb, cell_below h.2.2.2.2.1 hb, cell_below h.2.2.2.2.2.1 hb, cell_below h.2.2.2.2.2.2.1 hb, cell_below h.2.2.2.2.2.2.2.1 hb, cell_below h.2.2.2.2.2.2.2.2.1 hb, cell_below h.2.2.2.2.2.2.2.2.2.1 hb, cell_below h.2.2.2.2.2.2.2.2.2.2.1 hb, h.2.2.2.2.2.2.2.2.2.2.2.trans (hb.mono h.2.2.2.2.2.2.2.2.2.2.2.size)⟩
theorem clone_good {R C N D : Nat} (hN : R * C = N) (hD : max 1 R = D) : 1 ≤ D ∧ R ≤ D ∧ (R = 0 ∨ C = 0 ∨ 0 + (C - 1) * D + (R - 1) < N) := by
  refine ⟨by omega, by omega, ?_⟩
  by_cases h0 : R = 0
  · exact .inl h0
  by_cases h1 : C = 0
  · exact .inr (.inl h1)
  refine .inr (.inr ?_)
  have e : D = R := by omega
  subst e
  obtain ⟨C', rfl⟩ : ∃ C', C = C' + 1 := ⟨C - 1, by omega⟩
  rw [← hN, Nat.add_sub_cancel, Nat.mul_add, Nat.mul_comm C' _]
  omega
theorem tab_same {l T : List Nat} {o R C L N D : Nat} {U : List Nat} (hN : R * C = N) (hD : max 1 R = D) (h : Tab (colsL l o R L C) 0 R C D N T) (k : Tab l o R C L N U) : T = U := by
  refine ext_getD (h.1.trans k.1.symm) fun i hi => ?_
  rw [h.1] at hi
  have hC : 0 < C := Nat.pos_of_ne_zero (by rintro rfl; simp at hi)
  have hb : i / C < R := Nat.div_lt_of_lt_mul (by rw [Nat.mul_comm]; exact hi)
  have he : i / C * C + i % C = i := by rw [Nat.mul_comm]; exact Nat.div_add_mod i C
  have hm := Nat.mod_lt i hC
  have h1 := tab_get h hN hb hm
  have h2 := tab_get k hN hb hm
  rw [he] at h1 h2
  rw [h1, h2]
  have hR0 : 0 < R := Nat.lt_of_le_of_lt (Nat.zero_le _) hb
  have e : D = R := by rw [← hD]; exact Nat.max_eq_right hR0
  subst e
  rw [← colsL_getD l o _ L hb hm]
  congr 1
  generalize i / C = y
  generalize i % C = z
  omega
end Go.Proofs.Ytamndbeffbcppaa
/-
MoveClones, walked. Conditions: as each says.
-/
set_option linter.unusedVariables false
set_option linter.unusedSimpArgs false
set_option linter.unnecessarySimpa false
namespace Go.Proofs.Ytamndbeffbcppaa
open Go.RowKit
attribute [local go_sem ↓] Go.wp_at_zero Go.wp_at_succ

theorem wds_img2 {l l' m : List Nat} {o R C L o' L' : Nat} (h : Wds l) (h' : Wds l') (hi : Img l o R C L (fun a b => l'.getD (o' + a + b * L') 0) m) : Wds m := by
  intro x hx
  obtain ⟨k, hk, rfl⟩ := List.mem_iff_getElem.1 hx
  rw [← getD_of_lt hk]
  by_cases hp : ∃ a, a < R ∧ ∃ b, b < C ∧ k = o + a + b * L
  · obtain ⟨a, ha, b, hb, rfl⟩ := hp
    rw [hi.2.1 a ha b hb]; exact getD_wds h' _
  · rw [hi.2.2 k (fun a ha b hb e => hp ⟨a, ha, b, hb, e⟩)]; exact getD_wds h _
end Go.Proofs.Ytamndbeffbcppaa
