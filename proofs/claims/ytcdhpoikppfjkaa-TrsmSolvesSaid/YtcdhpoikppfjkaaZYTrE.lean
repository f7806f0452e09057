/-
Trsv: the program's solve, kind by kind. Conditions: as each says.
-/
import Derived.Test.YtcdhpoikppfjkaaZYTrC
set_option linter.unusedVariables false
set_option linter.unusedSimpArgs false
set_option linter.unnecessarySimpa false
namespace Go.Proofs.Ytcdhpoikppfjkaa
open Go.RowKit
attribute [local go_sem ↓] Go.wp_at_zero Go.wp_at_succ

/-- What a walk of solve holds. -/
def TrW (w : World) (kd : Nat) (A : Option Addr) (n c o R L : Nat) (f : Nat → Nat → Nat) (gx nx cx ox ix : Nat) (ly : List Nat) (Z : Nat → Nat) (wr : World) : Prop :=
  ∃ y, TrL ly ox ix R Z y ∧ Own wr gx y ∧ MxC wr A o R L f ∧ Chg [gx] w wr ∧ Blk wr w.heap.size 80 #[.int .i64 (kd : Int), .slice A n c, .int .i64 o, .int .i64 R, .int .i64 R, .int .i64 L] ∧ Blk wr (w.heap.size + 1) 66 #[.slice (some ⟨gx, 0, none⟩) nx cx, .int .i64 ox, .int .i64 R, .int .i64 ix]
theorem TrW.congr {w wr : World} {kd : Nat} {A : Option Addr} {n c o R L : Nat} {f : Nat → Nat → Nat} {gx nx cx ox ix : Nat} {ly : List Nat} {Z Z' : Nat → Nat} (h : TrW w kd A n c o R L f gx nx cx ox ix ly Z wr) (e : ∀ p, p < R → Z p = Z' p) : TrW w kd A n c o R L f gx nx cx ox ix ly Z' wr := by
  obtain ⟨y, h1, h2⟩ := h
  exact ⟨y, h1.congr e, h2⟩
/-- What is asked of what is handed in. -/
structure TrH (w : World) (kd : Nat) (A : Option Addr) (n c o R L : Nat) (f : Nat → Nat → Nat) (gx nx cx ox ix : Nat) (ly : List Nat) : Prop where
  hkd : kd = 1 ∨ kd = 2 ∨ kd = 3 ∨ kd = 4
  hn : n < 1048576
  hL : I64 L
  hRb : R < 1048576
  hL1 : 1 ≤ L
  hRL : R ≤ L
  hmr : R = 0 ∨ R = 0 ∨ o + (R - 1) * L + (R - 1) < n
  hly : ly.length = nx
  hnx : nx < 1048576
  hix : 1 ≤ ix
  hf : ∀ i k, f i k < 18446744073709551616
  hpl : ∀ q, q < R → ox + q * ix < nx
  hst : ∀ W q v, q < R → MxC W A o R L f → MxC (W.setCell ⟨gx, ox + q * ix, none⟩ (.float .f64 v)) A o R L f
  hgx : gx < w.heap.size
theorem TrW.take {w wr : World} {kd : Nat} {A : Option Addr} {n c o R L : Nat} {f : Nat → Nat → Nat} {gx nx cx ox ix : Nat} {ly : List Nat} {Z Z' : Nat → Nat} {i k : Nat} (H : TrH w kd A n c o R L f gx nx cx ox ix ly) (hi : i < R) (hk : k < R)
    (hZ : ∀ p, p < R → (if p = i then fbin .sub (Z i) (fbin .mul (trV kd f i k) (Z k)) else Z p) = Z' p) (h : TrW w kd A n c o R L f gx nx cx ox ix ly Z wr) :
    Calls Try.prog 62 #[tri (kd : Int) A n c o R R L, vec (some ⟨gx, 0, none⟩) nx cx ox R ix, .int .i64 i, .int .i64 k] wr fun e w' => e = .returned (.tuple #[]) ∧ TrW w kd A n c o R L f gx nx cx ox ix ly Z' w' := by
  obtain ⟨y, h1, h2, h3, h4, h5, h6⟩ := h
  refine (trtakeoff_any kd H.hkd A n c o R L f i k y gx nx cx ox R ix wr h3 H.hn H.hL H.hRb H.hL1 H.hRL H.hmr hi hk h2 (h1.1.trans H.hly) H.hnx (H.hpl i hi) (H.hpl k hk)).mono ?_
  rintro e w' ⟨rfl, W', r, hb, rfl, p, hp, hr⟩
  have hPl : ox + i * ix < ly.length := by rw [H.hly]; exact H.hpl i hi
  have hIs : Is r (fbin .sub (Z i) (fbin .mul (trV kd f i k) (Z k))) := hr.is_ (h1.2.1 i hi) (hp.is_ (Is.refl (trV_lt H.hf)) (h1.2.1 k hk))
  have hg := H.hgx
  exact ⟨rfl, y.set (ox + i * ix) r, (h1.set_ H.hix hi hPl hIs).congr hZ, (h2.nxt hb).set_ _ _ (by rw [h1.1]; exact hPl), H.hst _ _ _ hi (h3.below hb), (h4.nxt hb).set_in (by simp) _, (h5.nxt hb).other (by show w.heap.size ≠ gx; omega) _, (h6.nxt hb).other (by show w.heap.size + 1 ≠ gx; omega) _⟩
theorem TrW.div {w wr : World} {kd : Nat} {A : Option Addr} {n c o R L : Nat} {f : Nat → Nat → Nat} {gx nx cx ox ix : Nat} {ly : List Nat} {Z Z' : Nat → Nat} {i : Nat} (H : TrH w kd A n c o R L f gx nx cx ox ix ly) (hi : i < R)
    (hZ : ∀ p, p < R → (if p = i then fbin .quo (Z i) (trV kd f i i) else Z p) = Z' p) (h : TrW w kd A n c o R L f gx nx cx ox ix ly Z wr) :
    Calls Try.prog 63 #[tri (kd : Int) A n c o R R L, vec (some ⟨gx, 0, none⟩) nx cx ox R ix, .int .i64 i] wr fun e w' => e = .returned (.tuple #[]) ∧ TrW w kd A n c o R L f gx nx cx ox ix ly Z' w' := by
  obtain ⟨y, h1, h2, h3, h4, h5, h6⟩ := h
  refine (trdivide_any kd H.hkd A n c o R L f i y gx nx cx ox R ix wr h3 H.hn H.hL H.hRb H.hL1 H.hRL H.hmr hi h2 (h1.1.trans H.hly) H.hnx (H.hpl i hi)).mono ?_
  rintro e w' ⟨rfl, W', r, hb, rfl, hr⟩
  have hPl : ox + i * ix < ly.length := by rw [H.hly]; exact H.hpl i hi
  have hIs : Is r (fbin .quo (Z i) (trV kd f i i)) := hr.is_ (h1.2.1 i hi) (Is.refl (trV_lt H.hf))
  have hg := H.hgx
  exact ⟨rfl, y.set (ox + i * ix) r, (h1.set_ H.hix hi hPl hIs).congr hZ, (h2.nxt hb).set_ _ _ (by rw [h1.1]; exact hPl), H.hst _ _ _ hi (h3.below hb), (h4.nxt hb).set_in (by simp) _, (h5.nxt hb).other (by show w.heap.size ≠ gx; omega) _, (h6.nxt hb).other (by show w.heap.size + 1 ≠ gx; omega) _⟩

set_option maxRecDepth 100000 in
set_option maxHeartbeats 2000000 in
theorem trsolve1 (A : Option Addr) (n c o R L : Nat) (f : Nat → Nat → Nat) (gx nx cx ox ix : Nat) (ly : List Nat) (E : Nat → Nat → Nat) (F : Nat → Nat) (w : World) (H : TrH w 1 A n c o R L f gx nx cx ox ix ly) (hS : TrS 1 R (trV 1 f) (fun p => ly.getD (ox + p * ix) 0) E F) (hM : MxC w A o R L f) (hX : Own w gx ly) (hW : Wds ly) :
    Calls Try.prog 52 #[tri 1 A n c o R R L, vec (some ⟨gx, 0, none⟩) nx cx ox R ix] w fun e w' => e = .returned (.tuple #[]) ∧ ∃ y, TrL ly ox ix R F y ∧ Own w' gx y ∧ Chg [gx] w w' := by
  have HTk := Lib.hid (fun (Z Z' : Nat → Nat) (i k : Nat) W (hi : i < R) (hk : k < R) (h : TrW w 1 A n c o R L f gx nx cx ox ix ly Z W) (hZ : ∀ p, p < R → (if p = i then fbin .sub (Z i) (fbin .mul (trV 1 f i k) (Z k)) else Z p) = Z' p) => TrW.take H hi hk hZ h)
  have HDv := Lib.hid (fun (Z Z' : Nat → Nat) (i : Nat) W (hi : i < R) (h : TrW w 1 A n c o R L f gx nx cx ox ix ly Z W) (hZ : ∀ p, p < R → (if p = i then fbin .quo (Z i) (trV 1 f i i) else Z p) = Z' p) => TrW.div H hi hZ h)
  have HL0 := Lib.hid (TrL.refl ly ox ix R hW (fun p hp => by rw [H.hly]; exact H.hpl p hp))
  have HS := Lib.hid hS
  have HM0 := Lib.hid hM
  have HX0 := Lib.hid hX
  have hRb := H.hRb
  clear hS hM hX hW H
  unfold tri vec at *
  go_enter Try.func52, Try.ntmps52
  have HX1 := Lib.hid (HX0.out.nxt ((Below.refl w.heap.size w).alloc (Nat.le_refl _) (.cells #[.int .i64 1, .slice A n c, .int .i64 o, .int .i64 R, .int .i64 R, .int .i64 L] 80) |>.alloc (by simp) (.cells #[.slice (some ⟨gx, 0, none⟩) nx cx, .int .i64 ox, .int .i64 R, .int .i64 ix] 66)))
  have HM1 := Lib.hid (HM0.out.below ((Below.refl w.heap.size w).alloc (Nat.le_refl _) (.cells #[.int .i64 1, .slice A n c, .int .i64 o, .int .i64 R, .int .i64 R, .int .i64 L] 80) |>.alloc (by simp) (.cells #[.slice (some ⟨gx, 0, none⟩) nx cx, .int .i64 ox, .int .i64 R, .int .i64 ix] 66)))
  have HC1 := Lib.hid (Chg.of_below (G := [gx]) ((Below.refl w.heap.size w).alloc (Nat.le_refl _) (.cells #[.int .i64 1, .slice A n c, .int .i64 o, .int .i64 R, .int .i64 R, .int .i64 L] 80) |>.alloc (by simp) (.cells #[.slice (some ⟨gx, 0, none⟩) nx cx, .int .i64 ox, .int .i64 R, .int .i64 ix] 66)))
  have HZ1 := Lib.hid ((Blk.new w 80 #[.int .i64 1, .slice A n c, .int .i64 o, .int .i64 R, .int .i64 R, .int .i64 L]).alloc (.cells #[.slice (some ⟨gx, 0, none⟩) nx cx, .int .i64 ox, .int .i64 R, .int .i64 ix] 66))
  have HV1 := Lib.hid (Blk.new_ (w.alloc (.cells #[.int .i64 1, .slice A n c, .int .i64 o, .int .i64 R, .int .i64 R, .int .i64 L] 80)) 66 #[.slice (some ⟨gx, 0, none⟩) nx cx, .int .i64 ox, .int .i64 R, .int .i64 ix] (w.heap.size + 1) (by simp))
  have HW0 := Lib.hid (show TrW w 1 A n c o R L f gx nx cx ox ix ly _ _ from ⟨ly, HL0.out, HX1.out, HM1.out, HC1.out, HZ1.out, HV1.out⟩)
  obtain ⟨z0, z1, z2, z3, z4, z5⟩ := cells6 HZ1.out
  obtain ⟨x0, x1, x2, x3⟩ := cells4w HV1.out
  go_wp2_with fail
  clear z0 z1 z2 z3 z4 z5 x0 x1 x2 x3 HX1 HM1 HC1 HZ1 HV1 HX0 HM0 HL0
  go_loopw [18] (fun x wr => ∃ j : Nat, j ≤ R ∧ x = .int .i64 (j : Int) ∧ Hid (TrW w 1 A n c o R L f gx nx cx ox ix ly (fun p => E p (min p j)) wr)) (fun x _ => R - (intOf x).toNat)
  case atStart => exact ⟨0, Nat.zero_le _, rfl, Lib.hid (HW0.out.congr fun p hp => by show _ = E p (min p 0); rw [show min p 0 = 0 from by omega, HS.out.zero p hp])⟩
  case round =>
    obtain ⟨j, hj, rfl, HH⟩ := hrel
    by_cases hlt : j < R
    · have har : (j : Int) < (R : Int) := by omega
      have ha1 : j + 1 ≤ 1048576 := by omega
      obtain ⟨y9, _, _, _, _, HZ9, HV9⟩ := HH.out
      obtain ⟨z0, z1, z2, z3, z4, z5⟩ := cells6 HZ9
      obtain ⟨x0, x1, x2, x3⟩ := cells4w HV9
      clear HZ9 HV9
      go_wp2_with fail
      clear z0 z1 z2 z3 z4 z5 x0 x1 x2 x3
      go_loopw [5] (fun x wr => ∃ i : Nat, j < i ∧ i ≤ R ∧ x = .int .i64 (i : Int) ∧ Hid (TrW w 1 A n c o R L f gx nx cx ox ix ly (trZ1 E j i) wr)) (fun x _ => R - (intOf x).toNat)
      case atStart => exact ⟨j + 1, by omega, by omega, by go_num, Lib.hid (HH.out.congr fun p hp => (trZ1_zero E j p).symm)⟩
      case round =>
        obtain ⟨i, hji, hi, rfl, HH⟩ := hrel
        obtain ⟨y9, _, _, _, _, HZ9, HV9⟩ := HH.out
        obtain ⟨z0, z1, z2, z3, z4, z5⟩ := cells6 HZ9
        obtain ⟨x0, x1, x2, x3⟩ := cells4w HV9
        clear HZ9 HV9
        by_cases hlt2 : i < R
        · have har2 : (i : Int) < (R : Int) := by omega
          have ha2 : i + 1 ≤ 1048576 := by omega
          have HTi := Lib.hid (HTk.out _ (trZ1 E j (i + 1)) i j wr hlt2 hlt HH.out (fun p hp => trZ1_step HS.out hji hlt2 p hp))
          go_wp2_with fail
          refine (HTi.out).mono ?_
          rintro e wa ⟨rfl, h9⟩
          have HH2 := Lib.hid h9
          clear h9 z0 z1 z2 z3 z4 z5 x0 x1 x2 x3
          go_wp2_with fail
          go_roundw
          case rel => exact ⟨i + 1, by omega, by omega, by go_num, HH2⟩
          case measure => simp [intOf] <;> omega
        · obtain rfl : R = i := by omega
          have hqc : ¬ (R : Int) < (R : Int) := by omega
          go_wp2_with fail
          go_roundw
          case rel => exact ⟨j + 1, by omega, by go_num, Lib.hid (HH.out.congr fun p hp => trZ1_done E hp)⟩
          case measure => simp [intOf] <;> omega
    · obtain rfl : R = j := by omega
      have hqc : ¬ (R : Int) < (R : Int) := by omega
      have HEnd := Lib.hid (HH.out.congr (Z' := F) fun p hp => trZ1_end HS.out hp)
      go_wp2_with fail
      go_end0
      obtain ⟨y, h1, h2, _, h4, _⟩ := HEnd.out
      exact ⟨rfl, y, h1, h2, h4⟩

set_option maxRecDepth 100000 in
set_option maxHeartbeats 2000000 in
theorem trsolve2 (A : Option Addr) (n c o R L : Nat) (f : Nat → Nat → Nat) (gx nx cx ox ix : Nat) (ly : List Nat) (E : Nat → Nat → Nat) (F : Nat → Nat) (w : World) (H : TrH w 2 A n c o R L f gx nx cx ox ix ly) (hS : TrS 2 R (trV 2 f) (fun p => ly.getD (ox + p * ix) 0) E F) (hM : MxC w A o R L f) (hX : Own w gx ly) (hW : Wds ly) :
    Calls Try.prog 52 #[tri 2 A n c o R R L, vec (some ⟨gx, 0, none⟩) nx cx ox R ix] w fun e w' => e = .returned (.tuple #[]) ∧ ∃ y, TrL ly ox ix R F y ∧ Own w' gx y ∧ Chg [gx] w w' := by
  have HTk := Lib.hid (fun (Z Z' : Nat → Nat) (i k : Nat) W (hi : i < R) (hk : k < R) (h : TrW w 2 A n c o R L f gx nx cx ox ix ly Z W) (hZ : ∀ p, p < R → (if p = i then fbin .sub (Z i) (fbin .mul (trV 2 f i k) (Z k)) else Z p) = Z' p) => TrW.take H hi hk hZ h)
  have HDv := Lib.hid (fun (Z Z' : Nat → Nat) (i : Nat) W (hi : i < R) (h : TrW w 2 A n c o R L f gx nx cx ox ix ly Z W) (hZ : ∀ p, p < R → (if p = i then fbin .quo (Z i) (trV 2 f i i) else Z p) = Z' p) => TrW.div H hi hZ h)
  have HL0 := Lib.hid (TrL.refl ly ox ix R hW (fun p hp => by rw [H.hly]; exact H.hpl p hp))
  have HS := Lib.hid hS
  have HM0 := Lib.hid hM
  have HX0 := Lib.hid hX
  have hRb := H.hRb
  clear hS hM hX hW H
  unfold tri vec at *
  go_enter Try.func52, Try.ntmps52
  have HX1 := Lib.hid (HX0.out.nxt ((Below.refl w.heap.size w).alloc (Nat.le_refl _) (.cells #[.int .i64 2, .slice A n c, .int .i64 o, .int .i64 R, .int .i64 R, .int .i64 L] 80) |>.alloc (by simp) (.cells #[.slice (some ⟨gx, 0, none⟩) nx cx, .int .i64 ox, .int .i64 R, .int .i64 ix] 66)))
  have HM1 := Lib.hid (HM0.out.below ((Below.refl w.heap.size w).alloc (Nat.le_refl _) (.cells #[.int .i64 2, .slice A n c, .int .i64 o, .int .i64 R, .int .i64 R, .int .i64 L] 80) |>.alloc (by simp) (.cells #[.slice (some ⟨gx, 0, none⟩) nx cx, .int .i64 ox, .int .i64 R, .int .i64 ix] 66)))
  have HC1 := Lib.hid (Chg.of_below (G := [gx]) ((Below.refl w.heap.size w).alloc (Nat.le_refl _) (.cells #[.int .i64 2, .slice A n c, .int .i64 o, .int .i64 R, .int .i64 R, .int .i64 L] 80) |>.alloc (by simp) (.cells #[.slice (some ⟨gx, 0, none⟩) nx cx, .int .i64 ox, .int .i64 R, .int .i64 ix] 66)))
  have HZ1 := Lib.hid ((Blk.new w 80 #[.int .i64 2, .slice A n c, .int .i64 o, .int .i64 R, .int .i64 R, .int .i64 L]).alloc (.cells #[.slice (some ⟨gx, 0, none⟩) nx cx, .int .i64 ox, .int .i64 R, .int .i64 ix] 66))
  have HV1 := Lib.hid (Blk.new_ (w.alloc (.cells #[.int .i64 2, .slice A n c, .int .i64 o, .int .i64 R, .int .i64 R, .int .i64 L] 80)) 66 #[.slice (some ⟨gx, 0, none⟩) nx cx, .int .i64 ox, .int .i64 R, .int .i64 ix] (w.heap.size + 1) (by simp))
  have HW0 := Lib.hid (show TrW w 2 A n c o R L f gx nx cx ox ix ly _ _ from ⟨ly, HL0.out, HX1.out, HM1.out, HC1.out, HZ1.out, HV1.out⟩)
  obtain ⟨z0, z1, z2, z3, z4, z5⟩ := cells6 HZ1.out
  obtain ⟨x0, x1, x2, x3⟩ := cells4w HV1.out
  go_wp2_with fail
  clear z0 z1 z2 z3 z4 z5 x0 x1 x2 x3 HX1 HM1 HC1 HZ1 HV1 HX0 HM0 HL0
  go_loopw [6] (fun x wr => ∃ (m : Nat) (z : Int), m ≤ R ∧ x = .int .i64 z ∧ z = (m : Int) - 1 ∧ Hid (TrW w 2 A n c o R L f gx nx cx ox ix ly (trY2 R E F m) wr)) (fun x _ => (intOf x + 1).toNat)
  case atStart => exact ⟨R, (R : Int) - 1, Nat.le_refl _, by first | go_num | rfl, rfl, Lib.hid (HW0.out.congr fun p hp => (trY2_zero HS.out hp).symm)⟩
  case round =>
    obtain ⟨m, z, hm, rfl, hz, HH⟩ := hrel
    obtain ⟨y9, _, _, _, _, HZ9, HV9⟩ := HH.out
    obtain ⟨z0, z1, z2, z3, z4, z5⟩ := cells6 HZ9
    obtain ⟨x0, x1, x2, x3⟩ := cells4w HV9
    clear HZ9 HV9
    rcases m with _ | m
    · have hqm : ¬ (0 : Int) ≤ z := by omega
      clear hz

      have HEnd := Lib.hid (HH.out.congr (Z' := F) fun p hp => trY2_end p)
      go_wp2_with fail
      go_end0
      obtain ⟨y, h1, h2, _, h4, _⟩ := HEnd.out
      exact ⟨rfl, y, h1, h2, h4⟩
    · obtain rfl : z = (m : Int) := by omega
      have hmR : m < R := by omega
      have har : (0 : Int) ≤ (m : Int) := by omega
      have hd0 : decide ((0 : Int) ≤ (m : Int)) = true := by simp
      clear hz
      have HDi := Lib.hid (HDv.out _ (trZ2 R E F m 0) m wr hmR HH.out (fun p hp => trY2_div HS.out hmR p hp))
      go_wp2_with fail
      refine (HDi.out).mono ?_
      rintro e wa ⟨rfl, h9⟩
      have HH1 := Lib.hid h9
      clear h9 z0 z1 z2 z3 z4 z5 x0 x1 x2 x3
      go_wp2_with fail
      go_loopw [49] (fun x wr => ∃ i : Nat, i ≤ m ∧ x = .int .i64 (i : Int) ∧ Hid (TrW w 2 A n c o R L f gx nx cx ox ix ly (trZ2 R E F m i) wr)) (fun x _ => m - (intOf x).toNat)
      case atStart => exact ⟨0, by omega, rfl, HH1⟩
      case round =>
        obtain ⟨i, hi, rfl, HH⟩ := hrel
        obtain ⟨y9, _, _, _, _, HZ9, HV9⟩ := HH.out
        obtain ⟨z0, z1, z2, z3, z4, z5⟩ := cells6 HZ9
        obtain ⟨x0, x1, x2, x3⟩ := cells4w HV9
        clear HZ9 HV9
        by_cases hlt2 : i < m
        · have har2 : (i : Int) < (m : Int) := by omega
          have ha2 : i + 1 ≤ 1048576 := by omega
          have HTi := Lib.hid (HTk.out _ (trZ2 R E F m (i + 1)) i m wr (by omega) hmR HH.out (fun p hp => trZ2_step HS.out hlt2 hmR p hp))
          go_wp2_with fail
          refine (HTi.out).mono ?_
          rintro e wb ⟨rfl, h9⟩
          have HH2 := Lib.hid h9
          clear h9 z0 z1 z2 z3 z4 z5 x0 x1 x2 x3
          go_wp2_with fail
          go_roundw
          case rel => exact ⟨i + 1, by omega, by go_num, HH2⟩
          case measure => simp [intOf] <;> omega
        · obtain rfl : m = i := by omega
          have hqc : ¬ (m : Int) < (m : Int) := by omega
          go_wp2_with fail
          go_roundw
          case rel => exact ⟨m, (m : Int) - 1, by omega, by first | go_num | rfl, rfl, Lib.hid (HH.out.congr fun p hp => trZ2_done)⟩
          case measure => simp [intOf] <;> omega

set_option maxRecDepth 100000 in
set_option maxHeartbeats 2000000 in
theorem trsolve3 (A : Option Addr) (n c o R L : Nat) (f : Nat → Nat → Nat) (gx nx cx ox ix : Nat) (ly : List Nat) (E : Nat → Nat → Nat) (F : Nat → Nat) (w : World) (H : TrH w 3 A n c o R L f gx nx cx ox ix ly) (hS : TrS 3 R (trV 3 f) (fun p => ly.getD (ox + p * ix) 0) E F) (hM : MxC w A o R L f) (hX : Own w gx ly) (hW : Wds ly) :
    Calls Try.prog 52 #[tri 3 A n c o R R L, vec (some ⟨gx, 0, none⟩) nx cx ox R ix] w fun e w' => e = .returned (.tuple #[]) ∧ ∃ y, TrL ly ox ix R F y ∧ Own w' gx y ∧ Chg [gx] w w' := by
  have HTk := Lib.hid (fun (Z Z' : Nat → Nat) (i k : Nat) W (hi : i < R) (hk : k < R) (h : TrW w 3 A n c o R L f gx nx cx ox ix ly Z W) (hZ : ∀ p, p < R → (if p = i then fbin .sub (Z i) (fbin .mul (trV 3 f i k) (Z k)) else Z p) = Z' p) => TrW.take H hi hk hZ h)
  have HDv := Lib.hid (fun (Z Z' : Nat → Nat) (i : Nat) W (hi : i < R) (h : TrW w 3 A n c o R L f gx nx cx ox ix ly Z W) (hZ : ∀ p, p < R → (if p = i then fbin .quo (Z i) (trV 3 f i i) else Z p) = Z' p) => TrW.div H hi hZ h)
  have HL0 := Lib.hid (TrL.refl ly ox ix R hW (fun p hp => by rw [H.hly]; exact H.hpl p hp))
  have HS := Lib.hid hS
  have HM0 := Lib.hid hM
  have HX0 := Lib.hid hX
  have hRb := H.hRb
  clear hS hM hX hW H
  unfold tri vec at *
  go_enter Try.func52, Try.ntmps52
  have HX1 := Lib.hid (HX0.out.nxt ((Below.refl w.heap.size w).alloc (Nat.le_refl _) (.cells #[.int .i64 3, .slice A n c, .int .i64 o, .int .i64 R, .int .i64 R, .int .i64 L] 80) |>.alloc (by simp) (.cells #[.slice (some ⟨gx, 0, none⟩) nx cx, .int .i64 ox, .int .i64 R, .int .i64 ix] 66)))
  have HM1 := Lib.hid (HM0.out.below ((Below.refl w.heap.size w).alloc (Nat.le_refl _) (.cells #[.int .i64 3, .slice A n c, .int .i64 o, .int .i64 R, .int .i64 R, .int .i64 L] 80) |>.alloc (by simp) (.cells #[.slice (some ⟨gx, 0, none⟩) nx cx, .int .i64 ox, .int .i64 R, .int .i64 ix] 66)))
  have HC1 := Lib.hid (Chg.of_below (G := [gx]) ((Below.refl w.heap.size w).alloc (Nat.le_refl _) (.cells #[.int .i64 3, .slice A n c, .int .i64 o, .int .i64 R, .int .i64 R, .int .i64 L] 80) |>.alloc (by simp) (.cells #[.slice (some ⟨gx, 0, none⟩) nx cx, .int .i64 ox, .int .i64 R, .int .i64 ix] 66)))
  have HZ1 := Lib.hid ((Blk.new w 80 #[.int .i64 3, .slice A n c, .int .i64 o, .int .i64 R, .int .i64 R, .int .i64 L]).alloc (.cells #[.slice (some ⟨gx, 0, none⟩) nx cx, .int .i64 ox, .int .i64 R, .int .i64 ix] 66))
  have HV1 := Lib.hid (Blk.new_ (w.alloc (.cells #[.int .i64 3, .slice A n c, .int .i64 o, .int .i64 R, .int .i64 R, .int .i64 L] 80)) 66 #[.slice (some ⟨gx, 0, none⟩) nx cx, .int .i64 ox, .int .i64 R, .int .i64 ix] (w.heap.size + 1) (by simp))
  have HW0 := Lib.hid (show TrW w 3 A n c o R L f gx nx cx ox ix ly _ _ from ⟨ly, HL0.out, HX1.out, HM1.out, HC1.out, HZ1.out, HV1.out⟩)
  obtain ⟨z0, z1, z2, z3, z4, z5⟩ := cells6 HZ1.out
  obtain ⟨x0, x1, x2, x3⟩ := cells4w HV1.out
  go_wp2_with fail
  clear z0 z1 z2 z3 z4 z5 x0 x1 x2 x3 HX1 HM1 HC1 HZ1 HV1 HX0 HM0 HL0
  go_loopw [8] (fun x wr => ∃ (m : Nat) (z : Int), m ≤ R ∧ x = .int .i64 z ∧ z = (m : Int) - 1 ∧ Hid (TrW w 3 A n c o R L f gx nx cx ox ix ly (fun p => if decide (m ≤ p) then F p else E p 0) wr)) (fun x _ => (intOf x + 1).toNat)
  case atStart => exact ⟨R, (R : Int) - 1, Nat.le_refl _, by first | go_num | rfl, rfl, Lib.hid (HW0.out.congr fun p hp => by show _ = (if decide (R ≤ p) = true then F p else E p 0); rw [if_neg (by simp; omega), HS.out.zero p hp])⟩
  case round =>
    obtain ⟨m, z, hm, rfl, hz, HH⟩ := hrel
    obtain ⟨y9, _, _, _, _, HZ9, HV9⟩ := HH.out
    obtain ⟨z0, z1, z2, z3, z4, z5⟩ := cells6 HZ9
    obtain ⟨x0, x1, x2, x3⟩ := cells4w HV9
    clear HZ9 HV9
    rcases m with _ | m
    · have hqm : ¬ (0 : Int) ≤ z := by omega
      clear hz

      have HEnd := Lib.hid (HH.out.congr (Z' := F) fun p hp => by show (if decide (0 ≤ p) = true then F p else E p 0) = _; simp)
      go_wp2_with fail
      go_end0
      obtain ⟨y, h1, h2, _, h4, _⟩ := HEnd.out
      exact ⟨rfl, y, h1, h2, h4⟩
    · obtain rfl : z = (m : Int) := by omega
      have hmR : m < R := by omega
      have ha1 : m + 1 ≤ 1048576 := by omega
      have har : (0 : Int) ≤ (m : Int) := by omega
      have hd0 : decide ((0 : Int) ≤ (m : Int)) = true := by simp
      clear hz
      go_wp2_with fail
      clear z0 z1 z2 z3 z4 z5 x0 x1 x2 x3
      go_loopw [9] (fun x wr => ∃ k : Nat, m < k ∧ k ≤ R ∧ x = .int .i64 (k : Int) ∧ Hid (TrW w 3 A n c o R L f gx nx cx ox ix ly (trR E F (fun p => decide (m + 1 ≤ p)) m (k - (m + 1))) wr)) (fun x _ => R - (intOf x).toNat)
      case atStart => exact ⟨m + 1, by omega, by omega, by go_num, Lib.hid (HH.out.congr fun p hp => by rw [Nat.sub_self]; exact (trR_zero E F (fun p => decide (m + 1 ≤ p)) m p).symm)⟩
      case round =>
        obtain ⟨k, hmk, hk, rfl, HH⟩ := hrel
        obtain ⟨y9, _, _, _, _, HZ9, HV9⟩ := HH.out
        obtain ⟨z0, z1, z2, z3, z4, z5⟩ := cells6 HZ9
        obtain ⟨x0, x1, x2, x3⟩ := cells4w HV9
        clear HZ9 HV9
        by_cases hlt2 : k < R
        · have har2 : (k : Int) < (R : Int) := by omega
          have ha2 : k + 1 ≤ 1048576 := by omega
          have HTi := Lib.hid (HTk.out _ (trR E F (fun p => decide (m + 1 ≤ p)) m (k + 1 - (m + 1))) m k wr hmR hlt2 HH.out (fun p hp => by
            have := trR_step HS.out (D := fun p => decide (m + 1 ≤ p)) (i := m) (t := k - (m + 1)) (k := k) hmR (by show k - (m + 1) < R - 1 - m; omega) (by show m + 1 + (k - (m + 1)) = k; omega) (by simp) (by simp; omega) p hp
            rw [this, show k - (m + 1) + 1 = k + 1 - (m + 1) from by omega]))
          go_wp2_with fail
          refine (HTi.out).mono ?_
          rintro e wa ⟨rfl, h9⟩
          have HH2 := Lib.hid h9
          clear h9 z0 z1 z2 z3 z4 z5 x0 x1 x2 x3
          go_wp2_with fail
          go_roundw
          case rel => exact ⟨k + 1, by omega, by omega, by go_num, HH2⟩
          case measure => simp [intOf] <;> omega
        · obtain rfl : R = k := by omega
          have hqc : ¬ (R : Int) < (R : Int) := by omega
          have HHd := Lib.hid (HH.out.congr (Z' := fun p => if decide (m ≤ p) then F p else E p 0) fun p hp => by
            have := trR_done HS.out (D := fun p => decide (m + 1 ≤ p)) (D' := fun p => decide (m ≤ p)) (i := m) hmR (by simp) (fun p hp => by rw [Bool.eq_iff_iff]; simp; omega) p hp
            have e1 : trC 3 R m = R - (m + 1) := by show R - 1 - m = _; omega
            rw [e1] at this
            show _ = (if decide (m ≤ p) = true then F p else E p 0)
            rw [← this]
            by_cases e : p = m
            · subst e; rw [if_pos rfl]; rfl
            · rw [if_neg e])
          go_wp2_with fail
          go_roundw
          case rel => exact ⟨m, (m : Int) - 1, by omega, by first | go_num | rfl, rfl, HHd⟩
          case measure => simp [intOf] <;> omega

set_option maxRecDepth 100000 in
set_option maxHeartbeats 2000000 in
theorem trsolve4 (A : Option Addr) (n c o R L : Nat) (f : Nat → Nat → Nat) (gx nx cx ox ix : Nat) (ly : List Nat) (E : Nat → Nat → Nat) (F : Nat → Nat) (w : World) (H : TrH w 4 A n c o R L f gx nx cx ox ix ly) (hS : TrS 4 R (trV 4 f) (fun p => ly.getD (ox + p * ix) 0) E F) (hM : MxC w A o R L f) (hX : Own w gx ly) (hW : Wds ly) :
    Calls Try.prog 52 #[tri 4 A n c o R R L, vec (some ⟨gx, 0, none⟩) nx cx ox R ix] w fun e w' => e = .returned (.tuple #[]) ∧ ∃ y, TrL ly ox ix R F y ∧ Own w' gx y ∧ Chg [gx] w w' := by
  have HTk := Lib.hid (fun (Z Z' : Nat → Nat) (i k : Nat) W (hi : i < R) (hk : k < R) (h : TrW w 4 A n c o R L f gx nx cx ox ix ly Z W) (hZ : ∀ p, p < R → (if p = i then fbin .sub (Z i) (fbin .mul (trV 4 f i k) (Z k)) else Z p) = Z' p) => TrW.take H hi hk hZ h)
  have HDv := Lib.hid (fun (Z Z' : Nat → Nat) (i : Nat) W (hi : i < R) (h : TrW w 4 A n c o R L f gx nx cx ox ix ly Z W) (hZ : ∀ p, p < R → (if p = i then fbin .quo (Z i) (trV 4 f i i) else Z p) = Z' p) => TrW.div H hi hZ h)
  have HL0 := Lib.hid (TrL.refl ly ox ix R hW (fun p hp => by rw [H.hly]; exact H.hpl p hp))
  have HS := Lib.hid hS
  have HM0 := Lib.hid hM
  have HX0 := Lib.hid hX
  have hRb := H.hRb
  clear hS hM hX hW H
  unfold tri vec at *
  go_enter Try.func52, Try.ntmps52
  have HX1 := Lib.hid (HX0.out.nxt ((Below.refl w.heap.size w).alloc (Nat.le_refl _) (.cells #[.int .i64 4, .slice A n c, .int .i64 o, .int .i64 R, .int .i64 R, .int .i64 L] 80) |>.alloc (by simp) (.cells #[.slice (some ⟨gx, 0, none⟩) nx cx, .int .i64 ox, .int .i64 R, .int .i64 ix] 66)))
  have HM1 := Lib.hid (HM0.out.below ((Below.refl w.heap.size w).alloc (Nat.le_refl _) (.cells #[.int .i64 4, .slice A n c, .int .i64 o, .int .i64 R, .int .i64 R, .int .i64 L] 80) |>.alloc (by simp) (.cells #[.slice (some ⟨gx, 0, none⟩) nx cx, .int .i64 ox, .int .i64 R, .int .i64 ix] 66)))
  have HC1 := Lib.hid (Chg.of_below (G := [gx]) ((Below.refl w.heap.size w).alloc (Nat.le_refl _) (.cells #[.int .i64 4, .slice A n c, .int .i64 o, .int .i64 R, .int .i64 R, .int .i64 L] 80) |>.alloc (by simp) (.cells #[.slice (some ⟨gx, 0, none⟩) nx cx, .int .i64 ox, .int .i64 R, .int .i64 ix] 66)))
  have HZ1 := Lib.hid ((Blk.new w 80 #[.int .i64 4, .slice A n c, .int .i64 o, .int .i64 R, .int .i64 R, .int .i64 L]).alloc (.cells #[.slice (some ⟨gx, 0, none⟩) nx cx, .int .i64 ox, .int .i64 R, .int .i64 ix] 66))
  have HV1 := Lib.hid (Blk.new_ (w.alloc (.cells #[.int .i64 4, .slice A n c, .int .i64 o, .int .i64 R, .int .i64 R, .int .i64 L] 80)) 66 #[.slice (some ⟨gx, 0, none⟩) nx cx, .int .i64 ox, .int .i64 R, .int .i64 ix] (w.heap.size + 1) (by simp))
  have HW0 := Lib.hid (show TrW w 4 A n c o R L f gx nx cx ox ix ly _ _ from ⟨ly, HL0.out, HX1.out, HM1.out, HC1.out, HZ1.out, HV1.out⟩)
  obtain ⟨z0, z1, z2, z3, z4, z5⟩ := cells6 HZ1.out
  obtain ⟨x0, x1, x2, x3⟩ := cells4w HV1.out
  go_wp2_with fail
  clear z0 z1 z2 z3 z4 z5 x0 x1 x2 x3 HX1 HM1 HC1 HZ1 HV1 HX0 HM0 HL0
  go_loopw [84] (fun x wr => ∃ i : Nat, i ≤ R ∧ x = .int .i64 (i : Int) ∧ Hid (TrW w 4 A n c o R L f gx nx cx ox ix ly (fun p => if decide (p < i) then F p else E p 0) wr)) (fun x _ => R - (intOf x).toNat)
  case atStart => exact ⟨0, Nat.zero_le _, rfl, Lib.hid (HW0.out.congr fun p hp => by show _ = (if decide (p < 0) = true then F p else E p 0); rw [if_neg (by simp), HS.out.zero p hp])⟩
  case round =>
    obtain ⟨i, hi, rfl, HH⟩ := hrel
    by_cases hlt : i < R
    · have har : (i : Int) < (R : Int) := by omega
      have ha1 : i + 1 ≤ 1048576 := by omega
      obtain ⟨y9, _, _, _, _, HZ9, HV9⟩ := HH.out
      obtain ⟨z0, z1, z2, z3, z4, z5⟩ := cells6 HZ9
      obtain ⟨x0, x1, x2, x3⟩ := cells4w HV9
      clear HZ9 HV9
      go_wp2_with fail
      clear z0 z1 z2 z3 z4 z5 x0 x1 x2 x3
      go_loopw [88] (fun x wr => ∃ k : Nat, k ≤ i ∧ x = .int .i64 (k : Int) ∧ Hid (TrW w 4 A n c o R L f gx nx cx ox ix ly (trR E F (fun p => decide (p < i)) i k) wr)) (fun x _ => i - (intOf x).toNat)
      case atStart => exact ⟨0, by omega, rfl, Lib.hid (HH.out.congr fun p hp => (trR_zero E F (fun p => decide (p < i)) i p).symm)⟩
      case round =>
        obtain ⟨k, hk, rfl, HH⟩ := hrel
        obtain ⟨y9, _, _, _, _, HZ9, HV9⟩ := HH.out
        obtain ⟨z0, z1, z2, z3, z4, z5⟩ := cells6 HZ9
        obtain ⟨x0, x1, x2, x3⟩ := cells4w HV9
        clear HZ9 HV9
        by_cases hlt2 : k < i
        · have har2 : (k : Int) < (i : Int) := by omega
          have ha2 : k + 1 ≤ 1048576 := by omega
          have HTi := Lib.hid (HTk.out _ (trR E F (fun p => decide (p < i)) i (k + 1)) i k wr hlt (by omega) HH.out (fun p hp => 
            trR_step HS.out (D := fun p => decide (p < i)) (i := i) (t := k) (k := k) hlt (by show k < (if (4 = 1 ∨ 4 = 4) then i else R - 1 - i); simpa using hlt2) rfl (by simp) (by simpa using hlt2) p hp))
          go_wp2_with fail
          refine (HTi.out).mono ?_
          rintro e wa ⟨rfl, h9⟩
          have HH2 := Lib.hid h9
          clear h9 z0 z1 z2 z3 z4 z5 x0 x1 x2 x3
          go_wp2_with fail
          go_roundw
          case rel => exact ⟨k + 1, by omega, by go_num, HH2⟩
          case measure => simp [intOf] <;> omega
        · obtain rfl : i = k := by omega
          have hqc : ¬ (i : Int) < (i : Int) := by omega
          have HDi := Lib.hid (HDv.out _ (fun p => if decide (p < i + 1) then F p else E p 0) i wr hlt HH.out (fun p hp => by
            have := trR_done HS.out (D := fun p => decide (p < i)) (D' := fun p => decide (p < i + 1)) (i := i) hlt (by simp) (fun p hp => by rw [Bool.eq_iff_iff]; simp; omega) p hp
            exact this))
          go_wp2_with fail
          refine (HDi.out).mono ?_
          rintro e wb ⟨rfl, h9⟩
          have HH2 := Lib.hid h9
          clear h9 z0 z1 z2 z3 z4 z5 x0 x1 x2 x3
          go_wp2_with fail
          go_roundw
          case rel => exact ⟨i + 1, by omega, by go_num, HH2⟩
          case measure => simp [intOf] <;> omega
    · obtain rfl : R = i := by omega
      have hqc : ¬ (R : Int) < (R : Int) := by omega
      have HEnd := Lib.hid (HH.out.congr (Z' := F) fun p hp => by show (if decide (p < R) = true then F p else E p 0) = _; rw [if_pos (by simpa using hp)])
      go_wp2_with fail
      go_end0
      obtain ⟨y, h1, h2, _, h4, _⟩ := HEnd.out
      exact ⟨rfl, y, h1, h2, h4⟩

end Go.Proofs.Ytcdhpoikppfjkaa
