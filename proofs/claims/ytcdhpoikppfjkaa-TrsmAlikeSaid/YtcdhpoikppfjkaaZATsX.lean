/-
TrsmAlike, put together. Conditions: as each says.
-/
import Derived.Test.YtcdhpoikppfjkaaZATsW
import Derived.Test.YtcdhpoikppfjkaaWbap
import Derived.Test.YtcdhpoikppfjkaaZAVwQ
set_option linter.unusedVariables false
set_option linter.unusedSimpArgs false
set_option linter.unnecessarySimpa false
namespace Go.Proofs.Ytcdhpoikppfjkaa
open Go.RowKit
attribute [local go_sem ↓] Go.wp_at_zero Go.wp_at_succ

set_option maxHeartbeats 1000000 in
theorem tsfits_badX (kd size : Int) (A : Option Addr) (n c : Nat) (o r k ld : Int) (A2 : Option Addr) (n2 c2 : Nat) (o2 r2 k2 ld2 : Int) (w : World) (h : (kd ≠ 1 ∧ kd ≠ 2) ∨ size < 1) :
    Calls Try.prog 17 #[.agg #[.int .i64 kd, .slice A n c, .int .i64 o, .int .i64 r, .int .i64 k, .int .i64 ld, .slice A2 n2 c2, .int .i64 o2, .int .i64 r2, .int .i64 k2, .int .i64 ld2], .int .i64 size] w fun e w' => e = .returned (.int .i64 1) ∧ Below w.heap.size w w' := by
  have HB := Lib.hid ((Below.refl w.heap.size w).alloc (Nat.le_refl _) (.cells #[.int .i64 kd, .slice A n c, .int .i64 o, .int .i64 r, .int .i64 k, .int .i64 ld, .slice A2 n2 c2, .int .i64 o2, .int .i64 r2, .int .i64 k2, .int .i64 ld2] 45))
  have HZ := Lib.hid (Blk.new w 45 #[.int .i64 kd, .slice A n c, .int .i64 o, .int .i64 r, .int .i64 k, .int .i64 ld, .slice A2 n2 c2, .int .i64 o2, .int .i64 r2, .int .i64 k2, .int .i64 ld2])
  by_cases hbad : kd ≠ 1 ∧ kd ≠ 2
  · obtain ⟨k1, k2'⟩ := hbad
    have t1 : (kd != 1) = true := by simp [k1]
    have t2 : (kd != 2) = true := by simp [k2']
    clear h
    obtain ⟨z0, z1, z2, z3, z4, z5, z6, z7, z8, z9, z10⟩ := cells11 HZ.out
    go_enter Try.func17, Try.ntmps17
    go_wp2_with fail
    go_ret
    exact ⟨rfl, HB.out⟩
  · have hs : size < 1 := h.resolve_left hbad
    have hk : kd = 1 ∨ kd = 2 := by omega
    clear hbad h
    rcases hk with rfl | rfl
    all_goals
      obtain ⟨z0, z1, z2, z3, z4, z5, z6, z7, z8, z9, z10⟩ := cells11 HZ.out
      go_enter Try.func17, Try.ntmps17
      go_wp2_with fail
      go_ret
      exact ⟨rfl, HB.out⟩
theorem far_argT {w : World} {A : Option Addr} {l : List Nat} (hA : Row w A (f64s l)) (hfz : ∀ b o, A = some ⟨b, o, none⟩ → l ≠ [] → w.frozen? ⟨b, o, none⟩ = false) : ∀ W g, Below w.heap.size w W → w.heap.size ≤ g → FarQ W A l g := fun W g hb hg => by
  have hlt : ∀ p q, A = some ⟨p, q, none⟩ → l ≠ [] → p < w.heap.size := fun p q e hl => by
    have h0 : 0 < l.length := List.length_pos_iff.2 hl
    obtain ⟨b', o', e', hlt, _⟩ := hA.at_ (f64s_get l 0 h0)
    rw [e] at e'
    injection e' with e'
    injection e' with e1 e2
    subst e1
    exact hlt
  exact ⟨hA.below hb, fun p q e hl => (hb.frozen (p := ⟨p, q, none⟩) (hlt p q e hl)).trans (hfz p q e hl), fun p q e hl => by have := hlt p q e hl; omega⟩
theorem ts_alike {l X Y : List Nat} {o R C L : Nat} {F : Nat → Nat → Nat} (hX : Imr l o R C L (fun i j r => Is r (F j i)) X) (hY : Imr l o R C L (fun i j r => Is r (F j i)) Y) : Alike X Y := by
  refine ⟨hX.1.trans hY.1.symm, fun x hx hx2 => ?_⟩
  rw [← getD_of_lt hx, ← getD_of_lt hx2]
  by_cases e : ∃ i, i < R ∧ ∃ j, j < C ∧ x = o + i + j * L
  · obtain ⟨i, hi, j, hj, rfl⟩ := e
    have h1 : Is _ (F j i) := hX.2.1 i hi j hj
    have h2 : Is _ (F j i) := hY.2.1 i hi j hj
    exact h1.same h2
  · have e2 : ∀ i, i < R → ∀ j, j < C → x ≠ o + i + j * L := fun i hi j hj e3 => e ⟨i, hi, j, hj, e3⟩
    rw [hX.2.2 x e2, hY.2.2 x e2]
    exact sameB_refl _

set_option maxRecDepth 100000 in
set_option maxHeartbeats 4000000 in
theorem trsmAlike_great (kd : Int) (a b : Nat) (Am : Option Addr) (nm cm : Nat) (mo mr mk ml : Int) (Ax : Option Addr) (nx cx : Nat) (xo xr xk xl : Int) (w : World) (h : (greatB nm mr mk || greatB nx xr xk) = true) :
    Calls Try.prog 4 #[.int .i64 kd, .int .u8 (a : Int), .int .u8 (b : Int), mat Am nm cm mo mr mk ml, mat Ax nx cx xo xr xk xl] w fun e w' => e = .returned (.bool true) ∧ Below w.heap.size w w' := by
  have HGr := Lib.hid (fun W => great_any Am nm cm mo mr mk ml W)
  have HLx := Lib.hid (fun W => great_any Ax nx cx xo xr xk xl W)
  generalize greatB nm mr mk = b1 at *
  generalize greatB nx xr xk = b2 at *
  cases b1
  · have hb2 : b2 = true := by simpa using h
    subst hb2
    clear h
    unfold mat at *
    go_enter Try.func4, Try.ntmps4
    have Hm0 := Lib.hid ((Blk.new w 24 #[.slice Am nm cm, .int .i64 mo, .int .i64 mr, .int .i64 mk, .int .i64 ml]).alloc (.cells #[.slice Ax nx cx, .int .i64 xo, .int .i64 xr, .int .i64 xk, .int .i64 xl] 24))
    have Hx0 := Lib.hid (Blk.new_ (w.alloc (.cells #[.slice Am nm cm, .int .i64 mo, .int .i64 mr, .int .i64 mk, .int .i64 ml] 24)) 24 #[.slice Ax nx cx, .int .i64 xo, .int .i64 xr, .int .i64 xk, .int .i64 xl] (w.heap.size + 1) (by simp))
    have HB0 := Lib.hid (((Below.refl w.heap.size w).alloc (Nat.le_refl _) (.cells #[.slice Am nm cm, .int .i64 mo, .int .i64 mr, .int .i64 mk, .int .i64 ml] 24)).alloc (by simp) (.cells #[.slice Ax nx cx, .int .i64 xo, .int .i64 xr, .int .i64 xk, .int .i64 xl] 24))
    obtain ⟨m0, m1, m2, m3, m4⟩ := cells5 Hm0.out
    obtain ⟨x0, x1, x2, x3, x4⟩ := cells5 Hx0.out
    go_wp2_with fail
    refine (awake14_any _).mono ?_
    rintro e w1 ⟨rfl, hb⟩
    have Hm1 := Lib.hid (Hm0.out.nxt hb)
    have Hx1 := Lib.hid (Hx0.out.nxt hb)
    have HB1 := Lib.hid (below_nx HB0.out hb)
    clear hb
    clear m0 m1 m2 m3 m4 x0 x1 x2 x3 x4
    obtain ⟨m0, m1, m2, m3, m4⟩ := cells5 Hm1.out
    obtain ⟨x0, x1, x2, x3, x4⟩ := cells5 Hx1.out
    go_wp2_with fail
    refine (HGr.out _).mono ?_
    rintro e w2 ⟨rfl, hb⟩
    have Hm2 := Lib.hid (Hm1.out.nxt hb)
    have Hx2 := Lib.hid (Hx1.out.nxt hb)
    have HB2 := Lib.hid (below_nx HB1.out hb)
    clear hb
    clear m0 m1 m2 m3 m4 x0 x1 x2 x3 x4
    obtain ⟨m0, m1, m2, m3, m4⟩ := cells5 Hm2.out
    obtain ⟨x0, x1, x2, x3, x4⟩ := cells5 Hx2.out
    go_wp2_with fail
    refine (HLx.out _).mono ?_
    rintro e w3 ⟨rfl, hb⟩
    have Hm3 := Lib.hid (Hm2.out.nxt hb)
    have Hx3 := Lib.hid (Hx2.out.nxt hb)
    have HB3 := Lib.hid (below_nx HB2.out hb)
    clear hb
    clear m0 m1 m2 m3 m4 x0 x1 x2 x3 x4
    obtain ⟨m0, m1, m2, m3, m4⟩ := cells5 Hm3.out
    obtain ⟨x0, x1, x2, x3, x4⟩ := cells5 Hx3.out
    go_wp2_with fail
    refine (awake14_any _).mono ?_
    rintro e w5 ⟨rfl, hb⟩
    have Hm4 := Lib.hid (Hm3.out.nxt hb)
    have Hx4 := Lib.hid (Hx3.out.nxt hb)
    have HB4 := Lib.hid (below_nx HB3.out hb)
    clear hb
    clear m0 m1 m2 m3 m4 x0 x1 x2 x3 x4
    obtain ⟨m0, m1, m2, m3, m4⟩ := cells5 Hm4.out
    obtain ⟨x0, x1, x2, x3, x4⟩ := cells5 Hx4.out
    go_wp2_with fail
    go_ret
    exact ⟨rfl, HB4.out⟩
  · clear h
    unfold mat at *
    go_enter Try.func4, Try.ntmps4
    have Hm0 := Lib.hid ((Blk.new w 24 #[.slice Am nm cm, .int .i64 mo, .int .i64 mr, .int .i64 mk, .int .i64 ml]).alloc (.cells #[.slice Ax nx cx, .int .i64 xo, .int .i64 xr, .int .i64 xk, .int .i64 xl] 24))
    have Hx0 := Lib.hid (Blk.new_ (w.alloc (.cells #[.slice Am nm cm, .int .i64 mo, .int .i64 mr, .int .i64 mk, .int .i64 ml] 24)) 24 #[.slice Ax nx cx, .int .i64 xo, .int .i64 xr, .int .i64 xk, .int .i64 xl] (w.heap.size + 1) (by simp))
    have HB0 := Lib.hid (((Below.refl w.heap.size w).alloc (Nat.le_refl _) (.cells #[.slice Am nm cm, .int .i64 mo, .int .i64 mr, .int .i64 mk, .int .i64 ml] 24)).alloc (by simp) (.cells #[.slice Ax nx cx, .int .i64 xo, .int .i64 xr, .int .i64 xk, .int .i64 xl] 24))
    obtain ⟨m0, m1, m2, m3, m4⟩ := cells5 Hm0.out
    obtain ⟨x0, x1, x2, x3, x4⟩ := cells5 Hx0.out
    go_wp2_with fail
    refine (awake14_any _).mono ?_
    rintro e w1 ⟨rfl, hb⟩
    have Hm1 := Lib.hid (Hm0.out.nxt hb)
    have Hx1 := Lib.hid (Hx0.out.nxt hb)
    have HB1 := Lib.hid (below_nx HB0.out hb)
    clear hb
    clear m0 m1 m2 m3 m4 x0 x1 x2 x3 x4
    obtain ⟨m0, m1, m2, m3, m4⟩ := cells5 Hm1.out
    obtain ⟨x0, x1, x2, x3, x4⟩ := cells5 Hx1.out
    go_wp2_with fail
    refine (HGr.out _).mono ?_
    rintro e w2 ⟨rfl, hb⟩
    have Hm2 := Lib.hid (Hm1.out.nxt hb)
    have Hx2 := Lib.hid (Hx1.out.nxt hb)
    have HB2 := Lib.hid (below_nx HB1.out hb)
    clear hb
    clear m0 m1 m2 m3 m4 x0 x1 x2 x3 x4
    obtain ⟨m0, m1, m2, m3, m4⟩ := cells5 Hm2.out
    obtain ⟨x0, x1, x2, x3, x4⟩ := cells5 Hx2.out
    go_wp2_with fail
    refine (awake14_any _).mono ?_
    rintro e w5 ⟨rfl, hb⟩
    have Hm3 := Lib.hid (Hm2.out.nxt hb)
    have Hx3 := Lib.hid (Hx2.out.nxt hb)
    have HB3 := Lib.hid (below_nx HB2.out hb)
    clear hb
    clear m0 m1 m2 m3 m4 x0 x1 x2 x3 x4
    obtain ⟨m0, m1, m2, m3, m4⟩ := cells5 Hm3.out
    obtain ⟨x0, x1, x2, x3, x4⟩ := cells5 Hx3.out
    go_wp2_with fail
    go_ret
    exact ⟨rfl, HB3.out⟩

theorem trsmAlike_walk (kd : Int) (a b : Nat) (Am : Option Addr) (cm : Nat) (lm : List Nat) (mo mr mk ml : Int) (Ax : Option Addr) (cx : Nat) (lx : List Nat) (xo xr xk xl : Int) (w : World) (hya : a < 256) (hyb : b < 256)
    (hAm : Row w Am (f64s lm)) (hfm : ∀ b o, Am = some ⟨b, o, none⟩ → lm ≠ [] → w.frozen? ⟨b, o, none⟩ = false) (hWm : Wds lm) (hmo : I64 mo) (hmr : I64 mr) (hmk : I64 mk) (hml : I64 ml) (hAx : Row w Ax (f64s lx)) (hWx : Wds lx) (hxo : I64 xo) (hxr : I64 xr) (hxk : I64 xk) (hxl : I64 xl) :
    Calls Try.prog 4 #[.int .i64 kd, .int .u8 (a : Int), .int .u8 (b : Int), mat Am lm.length cm mo mr mk ml, mat Ax lx.length cx xo xr xk xl] w fun e w' => e = .returned (.bool true) ∧ Below w.heap.size w w' := by
  cases hG : (greatB lm.length mr mk || greatB lx.length xr xk)
  · have hG2 := hG
    simp only [Bool.or_eq_false_iff] at hG2
    have q1 : lm.length ≤ 1000 ∧ mr ≤ 20 ∧ mk ≤ 20 := by have h := hG2.1; unfold greatB at h; simp at h; omega
    have q2 : lx.length ≤ 1000 ∧ xr ≤ 20 ∧ xk ≤ 20 := by have h := hG2.2; unfold greatB at h; simp at h; omega
    have hF := far_argT hAm hfm
    -- an error is the same for both: nothing is written
    have herr : ∀ E : Int, E ≠ 0 → (∀ (n : Nat), 1 ≤ n ∧ n ≤ 256 → ∀ W (g cg : Nat), Below w.heap.size w W → w.heap.size ≤ g → Own W g lx → Calls Try.prog 8 #[.int .i64 kd, .int .i64 (n : Int), mat Am lm.length cm mo mr mk ml, mat (some ⟨g, 0, none⟩) lx.length cg xo xr xk xl] W fun e w' => e = .returned (.int .i64 E) ∧ Below W.heap.size W w') →
        Calls Try.prog 4 #[.int .i64 kd, .int .u8 (a : Int), .int .u8 (b : Int), mat Am lm.length cm mo mr mk ml, mat Ax lx.length cx xo xr xk xl] w fun e w' => e = .returned (.bool true) ∧ Below w.heap.size w w' := fun E hE hPr =>
      trsmAlike_any kd a b Am _ cm mo mr mk ml Ax _ cx lx xo xr xk xl E (fun X => X = lx) w hya hyb hAx rfl q2.1 hG2.1 hG2.2
        (fun n hn W g cg hb hg hO => (hPr n hn W g cg hb hg hO).mono fun e w' ⟨e1, e2⟩ => ⟨e1, ⟨lx, rfl, hO.nxt e2⟩, Chg.of_below e2⟩)
        (fun W A B c d X Y hX hY h1 h2 => by simp only [hX, hY] at h1 h2 ⊢; exact all_c lx lx.length hWx rfl (by omega) W A B c d h1 h2)
    by_cases hk : kd = 1 ∨ kd = 2
    · by_cases h : (matB lm.length mo mr mk ml && matB lx.length xo xr xk xl) = true ∧ mr = mk ∧ xr = mr
      · obtain ⟨h2, e1, e2⟩ := h
        simp only [Bool.and_eq_true] at h2
        obtain ⟨g1, g2⟩ := h2
        obtain ⟨o, R, R', L, rfl, rfl, rfl, rfl, hL1, hRL, hmr2⟩ := mat_nat g1
        obtain ⟨o2, R2, C, L2, rfl, rfl, rfl, rfl, hL21, hRL2, hxr2⟩ := mat_nat g2
        have e1 : R' = R := by omega
        have e2 : R2 = R := by omega
        subst e1
        subst e2
        obtain ⟨q, rfl⟩ : ∃ q : Nat, kd = q := ⟨kd.toNat, by omega⟩
        have hkq : q = 1 ∨ q = 2 := by omega
        have HH := fun W g cg (hb : Below w.heap.size w W) (hg : w.heap.size ≤ g) => tsH_far W Am lm.length cm o R2 L lm g lx.length cg lx o2 C L2 (hF W g hb hg) rfl (by omega) hml (by omega) hL1 hRL hmr2 hmo hWm rfl (by omega) (by omega) hxl hL21 hRL2 hxr2 hxo hWx
        have HMx := fun W (hb : Below w.heap.size w W) => MxC.of_row (n := lm.length) (o := o) (R := R2) (L := L) (hAm.below hb) rfl hmr2
        cases hz : tsHZ (fun i k => lm.getD (o + i + k * L) 0) R2
        · have hSE : ∀ j, ∃ E F, TrS q R2 (trV q (fun i k => lm.getD (o + i + k * L) 0)) (fun p => lx.getD (o2 + p + j * L2) 0) E F := fun j => trS_exists q R2 _ _ (by rcases hkq with h | h <;> simp [h])
          refine trsmAlike_any q a b Am _ cm o R2 R2 L Ax _ cx lx o2 R2 C L2 0 (Imr lx o2 R2 C L2 (fun i j r => Is r ((hSE j).choose_spec.choose i))) w hya hyb hAx rfl q2.1 hG2.1 hG2.2
            (fun n hn W g cg hb hg hO => (ts_ok (HH W g cg hb hg) q hkq n hn.1 (by omega) (by omega) (E := fun j => (hSE j).choose) (F := fun j => (hSE j).choose_spec.choose) (fun j => (hSE j).choose_spec.choose_spec) (fun _ => hz) hO (HMx W hb)).mono fun e w' ⟨e1, y, e2, e3, e4⟩ => ⟨e1, ⟨y, e2, e3⟩, e4⟩)
            (fun W A B c d X Y hX hY h1 h2 => ?_)
          have hw : ∀ X, Imr lx o2 R2 C L2 (fun i j r => Is r ((hSE j).choose_spec.choose i)) X → Wds X := fun X h => wds_imre hWx h (fun i _ j _ r (h9 : Is r _) => h9.lt)
          have := rall_any A B c d X Y W (hw X hX) (hw Y hY) h1 h2 (by rw [hX.1]; omega) (ts_alike hX hY)
          rw [hX.1, hY.1] at this
          exact this
        · rcases hkq with rfl | rfl
          · have hSE : ∀ j, ∃ E F, TrS 1 R2 (trV 1 (fun i k => lm.getD (o + i + k * L) 0)) (fun p => lx.getD (o2 + p + j * L2) 0) E F := fun j => trS_exists 1 R2 _ _ (by simp)
            refine trsmAlike_any (1 : Nat) a b Am _ cm o R2 R2 L Ax _ cx lx o2 R2 C L2 0 (Imr lx o2 R2 C L2 (fun i j r => Is r ((hSE j).choose_spec.choose i))) w hya hyb hAx rfl q2.1 hG2.1 hG2.2
              (fun n hn W g cg hb hg hO => (ts_ok (HH W g cg hb hg) 1 (by omega) n hn.1 (by omega) (by omega) (E := fun j => (hSE j).choose) (F := fun j => (hSE j).choose_spec.choose) (fun j => (hSE j).choose_spec.choose_spec) (fun h => by omega) hO (HMx W hb)).mono fun e w' ⟨e1, y, e2, e3, e4⟩ => ⟨e1, ⟨y, e2, e3⟩, e4⟩)
              (fun W A B c d X Y hX hY h1 h2 => ?_)
            have hw : ∀ X, Imr lx o2 R2 C L2 (fun i j r => Is r ((hSE j).choose_spec.choose i)) X → Wds X := fun X h => wds_imre hWx h (fun i _ j _ r (h9 : Is r _) => h9.lt)
            have := rall_any A B c d X Y W (hw X hX) (hw Y hY) h1 h2 (by rw [hX.1]; omega) (ts_alike hX hY)
            rw [hX.1, hY.1] at this
            exact this
          · refine herr 4 (by omega) fun n hn W g cg hb hg hO => ts_err (2 : Nat) n Am lm.length cm o R2 R2 L (some ⟨g, 0, none⟩) lx.length cg o2 R2 C L2 4 W false true (by omega) (by omega) hmo hmr hmr hml (by omega) hxo hxr hxk hxl
              (fun _ _ W' hb' => (HH W g cg hb hg).hmt W' lx (Chg.of_below hb') (hO.nxt hb') rfl o2 R2 C L2 o R2 R2 L hxo hxr hxk hxl hmo hmr hmr hml (by by_cases h1 : R2 = 0 <;> by_cases h2 : C = 0 <;> simp [h1, h2]) (.inr (.inr ⟨Nat.le_refl _, Nat.le_refl _⟩)))
              (fun _ _ _ _ W' hb' => by
                have h9 := tshaszero_any ((2 : Nat) : Int) Am lm.length cm o R2 L (fun i k => lm.getD (o + i + k * L) 0) (some ⟨g, 0, none⟩) lx.length cg o2 R2 C L2 W' ((HMx W hb).below hb') (by omega) hml (by omega) hL1 hRL hmr2
                rw [hz] at h9
                exact h9)
              (by
                have hns : ¬ ((((2 : Nat) : Int) ≠ 1 ∧ ((2 : Nat) : Int) ≠ 2) ∨ (n : Int) < 1) := by omega
                rw [mat_right hL1 hRL hmr2, mat_right hL21 hRL2 hxr2]
                simp
                omega)
      · -- not right, or sizes that differ
        obtain ⟨E, hE⟩ : ∃ E : Int, E = if (matB lm.length mo mr mk ml && matB lx.length xo xr xk xl) = false then 1 else 3 := ⟨_, rfl⟩
        have hq : (matB lm.length mo mr mk ml && matB lx.length xo xr xk xl) = true → ((mr != mk) || (xr != mr)) = true := fun e => by
          by_cases e1 : mr = mk
          · have e2 : ¬ xr = mr := fun e2 => h ⟨e, e1, e2⟩
            simp [e2]
          · simp [e1]
        have hE0 : E ≠ 0 := by rw [hE]; split <;> omega
        exact herr E hE0 fun n hn W g cg hb hg hO => ts_err kd n Am lm.length cm mo mr mk ml (some ⟨g, 0, none⟩) lx.length cg xo xr xk xl E W false false hE0 (by omega) hmo hmr hmk hml (by omega) hxo hxr hxk hxl
          (fun e1 e2 => by rw [hq e1] at e2; cases e2) (fun _ e1 e2 _ => by rw [hq e1] at e2; cases e2) (by
            have hns : ¬ ((kd ≠ 1 ∧ kd ≠ 2) ∨ (n : Int) < 1) := by omega
            rw [hE]
            cases hm : (matB lm.length mo mr mk ml && matB lx.length xo xr xk xl)
            · simp
            · have h9 := hq hm
              simp only [hns, false_or, h9, if_true]
              try simp)
    · refine herr 1 (by omega) fun n hn W g cg hb hg hO => tsSolve_err kd Am lm.length cm mo mr mk ml (some ⟨g, 0, none⟩) lx.length cg xo xr xk xl n 1 W (by omega) fun W' _ => tsfits_badX kd n Am lm.length cm mo mr mk ml (some ⟨g, 0, none⟩) lx.length cg xo xr xk xl W' (by omega)
  · exact trsmAlike_great kd a b Am _ cm mo mr mk ml Ax _ cx xo xr xk xl w hG
end Go.Proofs.Ytcdhpoikppfjkaa
