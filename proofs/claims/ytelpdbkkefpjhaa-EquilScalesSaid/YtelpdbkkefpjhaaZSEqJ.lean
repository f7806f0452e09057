/-
Equil: Exact. Conditions: as each says.
-/
import Derived.Test.YtelpdbkkefpjhaaWSw
import Derived.Test.YtelpdbkkefpjhaaZSPlJ
import Derived.Test.YtelpdbkkefpjhaaZSNumB
set_option linter.unusedVariables false
set_option linter.unusedSimpArgs false
set_option linter.unnecessarySimpa false
namespace Go.Proofs.Ytelpdbkkefpjhaa
open Go.RowKit
attribute [local go_sem ↓] Go.wp_at_zero Go.wp_at_succ

set_option maxHeartbeats 2000000 in
theorem eqexact_bad (A : Option Addr) (n c : Nat) (off r k ld : Int) (B : Option Addr) (rn rc : Nat) (E : Option Addr) (kn kc : Nat) (w : World) (hn : n < 9223372036854775808) (ho : I64 off) (hr : I64 r) (hk : I64 k) (hi : I64 ld) (hgd : matB n off r k ld = false) :
    Calls Try.prog 16 #[mat A n c off r k ld, .slice B rn rc, .slice E kn kc] w fun e w' => e = .returned (.bool false) ∧ Below w.heap.size w w' := by
  have HSc := Lib.hid (fun W (hb : Below w.heap.size w W) => eqscale_bad A n c off r k ld B rn rc E kn kc W hn ho hr hk hi hgd)
  clear hn ho hr hk hi hgd
  unfold mat at *
  have HZ0 := Lib.hid (Blk.new w 24 #[.slice A n c, .int .i64 off, .int .i64 r, .int .i64 k, .int .i64 ld])
  have HB0 := Lib.hid ((Below.refl w.heap.size w).alloc (Nat.le_refl _) (.cells #[.slice A n c, .int .i64 off, .int .i64 r, .int .i64 k, .int .i64 ld] 24))
  obtain ⟨c0, c1, c2, c3, c4⟩ := cells5 HZ0.out
  go_enter Try.func16, Try.ntmps16
  go_wp2_with fail
  refine (HSc.out _ HB0.out).mono ?_
  rintro e w1 ⟨rfl, hb⟩
  have HB1 := Lib.hid (below_al (below_nx HB0.out hb) (o := (.cells #[.slice none 0 0, .int .i64 0, .int .i64 0, .int .i64 0, .int .i64 0] 24)))
  clear hb c0 c1 c2 c3 c4
  go_wp2_with fail
  go_ret
  exact ⟨rfl, HB1.out⟩

set_option maxHeartbeats 2000000 in
theorem eqexact_size (A : Option Addr) (n c : Nat) (l : List Nat) (o R C L : Nat) (B : Option Addr) (rn rc : Nat) (E : Option Addr) (kn kc : Nat) (w : World) (hA : Row w A (f64s l)) (hl : l.length = n) (hnc : n ≤ c) (hn : n < 1048576) (hoI : I64 o) (hLI : I64 L) (hR : R ≤ 64) (hC : C ≤ 64) (hL1 : 1 ≤ L) (hRL : R ≤ L) (hmr : R = 0 ∨ C = 0 ∨ o + (C - 1) * L + (R - 1) < n) (hs : ¬ ((rn : Int) = (R : Int) ∧ (kn : Int) = (C : Int))) :
    Calls Try.prog 16 #[mat A n c o R C L, .slice B rn rc, .slice E kn kc] w fun e w' => e = .returned (.bool false) ∧ Below w.heap.size w w' := by
  have HSc := Lib.hid (fun W (hb : Below w.heap.size w W) => eqscale_size A n c l o R C L B rn rc E kn kc W (hA.below hb) hl hnc hn hoI hLI hR hC hL1 hRL hmr hs)
  clear hA hl hnc hn hoI hLI hR hC hL1 hRL hmr hs
  unfold mat at *
  have HZ0 := Lib.hid (Blk.new w 24 #[.slice A n c, .int .i64 o, .int .i64 R, .int .i64 C, .int .i64 L])
  have HB0 := Lib.hid ((Below.refl w.heap.size w).alloc (Nat.le_refl _) (.cells #[.slice A n c, .int .i64 o, .int .i64 R, .int .i64 C, .int .i64 L] 24))
  obtain ⟨c0, c1, c2, c3, c4⟩ := cells5 HZ0.out
  go_enter Try.func16, Try.ntmps16
  go_wp2_with fail
  refine (HSc.out _ HB0.out).mono ?_
  rintro e w1 ⟨rfl, hb⟩
  have HB1 := Lib.hid (below_al (below_nx HB0.out hb) (o := (.cells #[.slice none 0 0, .int .i64 0, .int .i64 0, .int .i64 0, .int .i64 0] 24)))
  clear hb c0 c1 c2 c3 c4
  go_wp2_with fail
  go_ret
  exact ⟨rfl, HB1.out⟩

set_option maxRecDepth 100000 in
set_option maxHeartbeats 8000000 in
theorem eqexact_ok (A : Option Addr) (n c : Nat) (l : List Nat) (o R C L : Nat) (B : Option Addr) (rc : Nat) (zr : List Int) (E : Option Addr) (kc : Nat) (zc : List Int) (w : World) (hA : Row w A (f64s l)) (hl : l.length = n) (hnc : n ≤ c) (hn : n < 1048576) (hoI : I64 o) (hLI : I64 L) (hR : R ≤ 64) (hC : C ≤ 64) (hL1 : 1 ≤ L) (hRL : R ≤ L) (hmr : R = 0 ∨ C = 0 ∨ o + (C - 1) * L + (R - 1) < n) (hW : Wds l) (hZr : Row w B (i64s zr)) (hzr : zr.length = R) (hZc : Row w E (i64s zc)) (hzc : zc.length = C) :
    Calls Try.prog 16 #[mat A n c o R C L, .slice B R rc, .slice E C kc] w fun e w' => e = .returned (.bool (exB zr zc (tX l o L) R C)) ∧ Below w.heap.size w w' := by
  obtain ⟨N, hN⟩ : ∃ N, R * C = N := ⟨_, rfl⟩
  obtain ⟨D, hD⟩ : ∃ D, max 1 R = D := ⟨_, rfl⟩
  have hNb : N ≤ 4096 := by
    have h1 : R * C ≤ 64 * 64 := Nat.mul_le_mul hR hC
    omega
  obtain ⟨b1, hb1⟩ : ∃ b, gridB R C (fun i j => Fl.fin (tX l o L i j)) = b := ⟨_, rfl⟩
  obtain ⟨b2, hb2⟩ : ∃ b, gridB R C (fun i j => Fl.fin (sclX zr zc (tX l o L) i j)) = b := ⟨_, rfl⟩
  have HSc := Lib.hid (fun W (hb : Below w.heap.size w W) => eqscale_ok A n c l o R C L D N B rc zr E kc zc W (hA.below hb) hW hl hnc hn hoI hLI hR hC hL1 hRL hmr hN hD (hZr.below hb) hzr (hZc.below hb) hzc)
  have HF1 := Lib.hid (fun W (hb : Below w.heap.size w W) => show Calls Try.prog 24 #[mat A n c o R C L] W fun e w' => e = .returned (.bool b1) ∧ Below W.heap.size W w' from by
    rw [← hb1]
    exact mfin_any A n c l o R C L N W (hA.below hb) hW hl hnc hn (by unfold I64 at hoI hLI; omega) hN hL1 hRL hmr)
  have HF2 := Lib.hid (fun (g : Nat) M W (hM : SclS zr zc l o R C L D N M) (hO : Own W g M) => show Calls Try.prog 24 #[mat (some ⟨g, 0, none⟩) N N 0 R C D] W fun e w' => e = .returned (.bool b2) ∧ Below W.heap.size W w' from by
    rw [← hb2, ← hM.fins]
    exact mfin_any (some ⟨g, 0, none⟩) N N M 0 R C D N W hO.row (hM.wds hW hN hD) hM.1 (by omega) (by omega) (by omega) hN (by omega) (by omega) (mat_room hN hD))
  have HVs := Lib.hid (fun (g : Nat) M W (i j : Nat) (hi : i < R) (hj : j < C) (hM : SclS zr zc l o R C L D N M) (hO : Own W g M) => show Calls Try.prog 41 #[mat (some ⟨g, 0, none⟩) N N 0 R C D, .int .i64 (i : Int), .int .i64 (j : Int)] W fun e w' => e = .returned (.float .f64 (sclX zr zc (tX l o L) i j)) ∧ Below W.heap.size W w' from by
    rw [← hM.at_ hi hj]
    exact vat_own g N N M 0 R C D i j W hO hM.1 (by omega) (by unfold I64; omega) (by omega) (by omega) (by omega) (by omega) (mat_room hN hD) hi hj)
  have HVm := Lib.hid (fun W (hb : Below w.heap.size w W) (i j : Nat) (hi : i < R) (hj : j < C) => show Calls Try.prog 41 #[mat A n c o R C L, .int .i64 (i : Int), .int .i64 (j : Int)] W fun e w' => e = .returned (.float .f64 (tX l o L i j)) ∧ Below W.heap.size W w' from
    vat_in A c n l o R C L i j W (hA.below hb) hl hn hLI (by omega) (by omega) hL1 hRL hmr hi hj)
  have HXl := Lib.hid (fun i j => tX_lt hW o L i j)
  have hex : exB zr zc (tX l o L) R C = (b1 && (b2 && gridB R C (okX zr zc (tX l o L)))) := by unfold exB; rw [hb1, hb2]
  rw [hex]
  have HRC := Lib.hid (And.intro hR hC)
  have HZr := Lib.hid (And.intro hZr hzr)
  have HZc := Lib.hid (And.intro hZc hzc)
  have Hl := Lib.hid (show ∀ (g : Nat) (M : List Nat), SclS zr zc l o R C L D N M → SclS zr zc l o R C L D N M from fun _ _ h => h)
  generalize tX l o L = X at *
  clear hA hl hnc hn hoI hLI hR hC hL1 hRL hmr hW hZr hzr hZc hzc hN hD hNb hb1 hb2 hex Hl
  unfold mat at *
  have HZ0 := Lib.hid (Blk.new w 24 #[.slice A n c, .int .i64 o, .int .i64 R, .int .i64 C, .int .i64 L])
  have HB0 := Lib.hid ((Below.refl w.heap.size w).alloc (Nat.le_refl _) (.cells #[.slice A n c, .int .i64 o, .int .i64 R, .int .i64 C, .int .i64 L] 24))
  obtain ⟨c0, c1, c2, c3, c4⟩ := cells5 HZ0.out
  go_enter Try.func16, Try.ntmps16
  go_wp2_with fail
  refine (HSc.out _ HB0.out).mono ?_
  rintro e w1 ⟨g, M, rfl, hM, hO, _, hb⟩
  have HM := Lib.hid hM
  have HZ1 := Lib.hid ((HZ0.out.nxt hb).alloc (.cells #[.slice (some ⟨g, 0, none⟩) N N, .int .i64 0, .int .i64 R, .int .i64 C, .int .i64 D] 24))
  have HS1 := Lib.hid (Blk.new w1 24 #[.slice (some ⟨g, 0, none⟩) N N, .int .i64 0, .int .i64 R, .int .i64 C, .int .i64 D])
  have HO1 := Lib.hid (hO.nxt (below_one (o := (.cells #[.slice (some ⟨g, 0, none⟩) N N, .int .i64 0, .int .i64 R, .int .i64 C, .int .i64 D] 24))))
  have HB1 := Lib.hid (below_al (below_nx HB0.out hb) (o := (.cells #[.slice (some ⟨g, 0, none⟩) N N, .int .i64 0, .int .i64 R, .int .i64 C, .int .i64 D] 24)))
  clear hb hO hM c0 c1 c2 c3 c4
  obtain ⟨c0, c1, c2, c3, c4⟩ := cells5 HZ1.out
  go_wp2_with fail
  refine (HF1.out _ HB1.out).mono ?_
  rintro e w2 ⟨rfl, hb⟩
  have HZ2 := Lib.hid (HZ1.out.nxt hb)
  have HS2 := Lib.hid (HS1.out.nxt hb)
  have HO2 := Lib.hid (HO1.out.nxt hb)
  have HB2 := Lib.hid (below_nx HB1.out hb)
  clear hb c0 c1 c2 c3 c4
  cases b1 with
  | false =>
    go_wp2_with fail
    go_ret
    exact ⟨rfl, HB2.out⟩
  | true =>
    obtain ⟨c0, c1, c2, c3, c4⟩ := cells5 HS2.out
    go_wp2_with fail
    refine (HF2.out g M _ HM.out HO2.out).mono ?_
    rintro e w3 ⟨rfl, hb⟩
    have HZ3 := Lib.hid (HZ2.out.nxt hb)
    have HS3 := Lib.hid (HS2.out.nxt hb)
    have HO3 := Lib.hid (HO2.out.nxt hb)
    have HB3 := Lib.hid (below_nx HB2.out hb)
    clear hb c0 c1 c2 c3 c4
    cases b2 with
    | false =>
      go_wp2_with fail
      go_ret
      exact ⟨rfl, HB3.out⟩
    | true =>
      go_wp2_with fail
      generalize w1.heap.size = ps at *
      clear HZ1 HS1 HO1 HB1 HZ2 HS2 HO2 HB2 HF1 HF2 HSc
      go_loopw [34] (fun a wr => ∃ q : Nat, q ≤ R ∧ a = .int .i64 q ∧ Hid (∀ i, i < q → ∀ j, j < C → okX zr zc X i j = true) ∧ Below w3.heap.size w3 wr) (fun a _ => R - (intOf a).toNat)
      case atStart => exact ⟨0, Nat.zero_le _, rfl, Lib.hid (fun i hi => by omega), Below.refl _ _⟩
      case round =>
        obtain ⟨q, hq, rfl, HOk, hbl⟩ := hrel
        have HBl := Lib.hid hbl
        clear hbl
        generalize wr = wa at *
        by_cases hlt : q < R
        · have hqc : (q : Int) < (R : Int) := by omega
          have hq1 : q + 1 ≤ 1048576 := by have := HRC.out; omega
          obtain ⟨br, y0, rfl, hcr⟩ := int_get (HZr.out.1.below (below_nx HB3.out HBl.out)) HZr.out.2 hlt
          obtain ⟨a, ha⟩ : ∃ a, zr.getD q 0 = a := ⟨_, rfl⟩
          rw [ha] at hcr
          go_wp2_with fail
          clear hcr
          go_loopw [41] (fun a wr => ∃ k : Nat, k ≤ C ∧ a = .int .i64 k ∧ Hid (∀ j, j < k → okX zr zc X q j = true) ∧ Below wa.heap.size wa wr) (fun a _ => C - (intOf a).toNat)
          case atStart => exact ⟨0, Nat.zero_le _, rfl, Lib.hid (fun j hj => by omega), Below.refl _ _⟩
          case round =>
            obtain ⟨k, hk, rfl, HOj, hbk⟩ := hrel
            have HBk := Lib.hid hbk
            clear hbk
            by_cases hkl : k < C
            · have hkc : (k : Int) < (C : Int) := by omega
              have hk1 : k + 1 ≤ 1048576 := by have := HRC.out; omega
              have HB4 := Lib.hid (below_nx HBl.out HBk.out)
              obtain ⟨bc, y1, rfl, hcc⟩ := int_get (HZc.out.1.below (below_nx HB3.out HB4.out)) HZc.out.2 hkl
              obtain ⟨b, hbv⟩ : ∃ b, zc.getD k 0 = b := ⟨_, rfl⟩
              rw [hbv] at hcc
              have HSw := Lib.hid (HS3.out.below HB4.out HS3.out.lt)
              have HZw := Lib.hid (HZ3.out.below HB4.out HZ3.out.lt)
              have HVk := Lib.hid (fun W (hT : Below wr.heap.size wr W) => HVs.out g M W q k hlt hkl HM.out (HO3.out.nxt (below_nx HB4.out hT)))
              have HMk := Lib.hid (fun W (hT : Below wr.heap.size wr W) => HVm.out W (below_nx (below_nx HB3.out HB4.out) hT) q k hlt hkl)
              have hyl : sclX zr zc X q k < 18446744073709551616 := Fl.scale_lt (HXl.out q k) _
              have hok : okX zr zc X q k = sameB (Fl.scale (sclX zr zc X q k) (IntKind.i64.wrap (-(IntKind.i64.wrap (a + b))))) (X q k) := by unfold okX; rw [ha, hbv]
              obtain ⟨y, hy⟩ : ∃ y, sclX zr zc X q k = y := ⟨_, rfl⟩
              obtain ⟨x, hx⟩ : ∃ x, X q k = x := ⟨_, rfl⟩
              obtain ⟨S1, wz⟩ : ∃ S, IntKind.i64.wrap (a + b) = S := ⟨_, rfl⟩
              obtain ⟨S2, wn⟩ : ∃ S, IntKind.i64.wrap (-S1) = S := ⟨_, rfl⟩
              rw [hy] at HVk hyl hok
              rw [hx] at HMk hok
              rw [wz, wn] at hok
              have HSk := Lib.hid (fun W => scale_any y S2 W hyl)
              obtain ⟨z2, hz2⟩ : ∃ z, Fl.scale y S2 = z := ⟨_, rfl⟩
              rw [hz2] at HSk hok
              have HEk := Lib.hid (fun W => same_any z2 x W)
              obtain ⟨bb, hbb⟩ : ∃ b, sameB z2 x = b := ⟨_, rfl⟩
              rw [hbb] at HEk hok
              have HOk1 := Lib.hid hok
              clear hbb hok hz2 hy hx hyl hbv
              go_wp2_with fail
              clear hcc
              cases bb with
              | false =>
                refine wp_region_inv [46, 47, 48, 49, 50, 51, 52, 53, 54, 55, 56, 57, 58, 59, 60] (fun d s W => (d 0 = true → s 46 = .agg #[.slice (some ⟨g, 0, none⟩) N N, .int .i64 0, .int .i64 (R : Int), .int .i64 (C : Int), .int .i64 (D : Int)]) ∧ (d 1 = true → s 47 = .int .i64 (q : Int)) ∧ (d 2 = true → s 48 = .int .i64 (k : Int)) ∧ (d 3 = true → s 49 = .float .f64 y) ∧ (d 4 = true → s 50 = .int .i64 a) ∧ (d 5 = true → s 51 = .int .i64 b) ∧ (d 6 = true → s 52 = .int .i64 S1) ∧ (d 7 = true → s 53 = .int .i64 S2) ∧ (d 8 = true → s 54 = .float .f64 z2) ∧ (d 9 = true → s 55 = .agg #[.slice A n c, .int .i64 (o : Int), .int .i64 (R : Int), .int .i64 (C : Int), .int .i64 (L : Int)]) ∧ (d 10 = true → s 56 = .int .i64 (q : Int)) ∧ (d 11 = true → s 57 = .int .i64 (k : Int)) ∧ (d 12 = true → s 58 = .float .f64 x) ∧ (d 13 = true → s 59 = .bool false) ∧ (d 14 = true → s 60 = .bool true) ∧ Below wr.heap.size wr W)
                  rfl (by kernel_rfl) ?_ ?_ ?_
                · exact ⟨by simp, by simp, by simp, by simp, by simp, by simp, by simp, by simp, by simp, by simp, by simp, by simp, by simp, by simp, by simp, (Below.refl _ _).drew⟩
                · refine ⟨?_, ?_, ?_, ?_, ?_, ?_, ?_, ?_, ?_, ?_, ?_, ?_, ?_, ?_, ?_, trivial⟩
                  all_goals
                    intro d s W hJ hfr hd hdep
                    simp only [List.mem_cons, forall_eq_or_imp, List.not_mem_nil, false_implies, implies_true, and_true, Region.binds] at hdep
                    have f3 := hfr 3 (by decide)
                    have f7 := hfr 7 (by decide)
                    have f9 := hfr 9 (by decide)
                    have f10 := hfr 10 (by decide)
                    have f11 := hfr 11 (by decide)
                    have f12 := hfr 12 (by decide)
                    simp at f3 f7 f9 f10 f11 f12 hdep
                    obtain ⟨h0, h1, h2, h3, h4, h5, h6, h7, h8, h9, h10, h11, h12, h13, h14, hT⟩ := hJ
                  · unfold OpSteps
                    obtain ⟨p0, p1, p2, p3, p4⟩ := cells5 (HSw.out.below hT HSw.out.lt)
                    simp [go_sem, evS, f7, p0, p1, p2, p3, p4]
                    exact ⟨fun _ => by simp [sput], fun h => by simpa [sput] using h1 (by simpa [did] using h), fun h => by simpa [sput] using h2 (by simpa [did] using h), fun h => by simpa [sput] using h3 (by simpa [did] using h), fun h => by simpa [sput] using h4 (by simpa [did] using h), fun h => by simpa [sput] using h5 (by simpa [did] using h), fun h => by simpa [sput] using h6 (by simpa [did] using h), fun h => by simpa [sput] using h7 (by simpa [did] using h), fun h => by simpa [sput] using h8 (by simpa [did] using h), fun h => by simpa [sput] using h9 (by simpa [did] using h), fun h => by simpa [sput] using h10 (by simpa [did] using h), fun h => by simpa [sput] using h11 (by simpa [did] using h), fun h => by simpa [sput] using h12 (by simpa [did] using h), fun h => by simpa [sput] using h13 (by simpa [did] using h), fun h => by simpa [sput] using h14 (by simpa [did] using h), hT⟩
                  · unfold OpSteps
                    simp [go_sem, evS, f9]
                    exact ⟨fun h => by simpa [sput] using h0 (by simpa [did] using h), fun _ => by simp [sput], fun h => by simpa [sput] using h2 (by simpa [did] using h), fun h => by simpa [sput] using h3 (by simpa [did] using h), fun h => by simpa [sput] using h4 (by simpa [did] using h), fun h => by simpa [sput] using h5 (by simpa [did] using h), fun h => by simpa [sput] using h6 (by simpa [did] using h), fun h => by simpa [sput] using h7 (by simpa [did] using h), fun h => by simpa [sput] using h8 (by simpa [did] using h), fun h => by simpa [sput] using h9 (by simpa [did] using h), fun h => by simpa [sput] using h10 (by simpa [did] using h), fun h => by simpa [sput] using h11 (by simpa [did] using h), fun h => by simpa [sput] using h12 (by simpa [did] using h), fun h => by simpa [sput] using h13 (by simpa [did] using h), fun h => by simpa [sput] using h14 (by simpa [did] using h), hT⟩
                  · unfold OpSteps
                    simp [go_sem, evS, f11]
                    exact ⟨fun h => by simpa [sput] using h0 (by simpa [did] using h), fun h => by simpa [sput] using h1 (by simpa [did] using h), fun _ => by simp [sput], fun h => by simpa [sput] using h3 (by simpa [did] using h), fun h => by simpa [sput] using h4 (by simpa [did] using h), fun h => by simpa [sput] using h5 (by simpa [did] using h), fun h => by simpa [sput] using h6 (by simpa [did] using h), fun h => by simpa [sput] using h7 (by simpa [did] using h), fun h => by simpa [sput] using h8 (by simpa [did] using h), fun h => by simpa [sput] using h9 (by simpa [did] using h), fun h => by simpa [sput] using h10 (by simpa [did] using h), fun h => by simpa [sput] using h11 (by simpa [did] using h), fun h => by simpa [sput] using h12 (by simpa [did] using h), fun h => by simpa [sput] using h13 (by simpa [did] using h), fun h => by simpa [sput] using h14 (by simpa [did] using h), hT⟩
                  · have g0 := h0 (by simp [hdep])
                    have g1 := h1 (by simp [hdep])
                    have g2 := h2 (by simp [hdep])
                    unfold OpSteps
                    simp [go_sem, evS, g0, g1, g2]
                    refine (HVk.out W hT).mono ?_
                    rintro e W' ⟨rfl, hb⟩
                    refine ⟨_, rfl, ?_⟩
                    exact ⟨fun h => by simpa [sput] using h0 (by simpa [did] using h), fun h => by simpa [sput] using h1 (by simpa [did] using h), fun h => by simpa [sput] using h2 (by simpa [did] using h), fun _ => by simp [sput], fun h => by simpa [sput] using h4 (by simpa [did] using h), fun h => by simpa [sput] using h5 (by simpa [did] using h), fun h => by simpa [sput] using h6 (by simpa [did] using h), fun h => by simpa [sput] using h7 (by simpa [did] using h), fun h => by simpa [sput] using h8 (by simpa [did] using h), fun h => by simpa [sput] using h9 (by simpa [did] using h), fun h => by simpa [sput] using h10 (by simpa [did] using h), fun h => by simpa [sput] using h11 (by simpa [did] using h), fun h => by simpa [sput] using h12 (by simpa [did] using h), fun h => by simpa [sput] using h13 (by simpa [did] using h), fun h => by simpa [sput] using h14 (by simpa [did] using h), below_nx hT hb⟩
                  · unfold OpSteps
                    simp [go_sem, evS, f10]
                    exact ⟨fun h => by simpa [sput] using h0 (by simpa [did] using h), fun h => by simpa [sput] using h1 (by simpa [did] using h), fun h => by simpa [sput] using h2 (by simpa [did] using h), fun h => by simpa [sput] using h3 (by simpa [did] using h), fun _ => by simp [sput], fun h => by simpa [sput] using h5 (by simpa [did] using h), fun h => by simpa [sput] using h6 (by simpa [did] using h), fun h => by simpa [sput] using h7 (by simpa [did] using h), fun h => by simpa [sput] using h8 (by simpa [did] using h), fun h => by simpa [sput] using h9 (by simpa [did] using h), fun h => by simpa [sput] using h10 (by simpa [did] using h), fun h => by simpa [sput] using h11 (by simpa [did] using h), fun h => by simpa [sput] using h12 (by simpa [did] using h), fun h => by simpa [sput] using h13 (by simpa [did] using h), fun h => by simpa [sput] using h14 (by simpa [did] using h), hT⟩
                  · unfold OpSteps
                    simp [go_sem, evS, f12]
                    exact ⟨fun h => by simpa [sput] using h0 (by simpa [did] using h), fun h => by simpa [sput] using h1 (by simpa [did] using h), fun h => by simpa [sput] using h2 (by simpa [did] using h), fun h => by simpa [sput] using h3 (by simpa [did] using h), fun h => by simpa [sput] using h4 (by simpa [did] using h), fun _ => by simp [sput], fun h => by simpa [sput] using h6 (by simpa [did] using h), fun h => by simpa [sput] using h7 (by simpa [did] using h), fun h => by simpa [sput] using h8 (by simpa [did] using h), fun h => by simpa [sput] using h9 (by simpa [did] using h), fun h => by simpa [sput] using h10 (by simpa [did] using h), fun h => by simpa [sput] using h11 (by simpa [did] using h), fun h => by simpa [sput] using h12 (by simpa [did] using h), fun h => by simpa [sput] using h13 (by simpa [did] using h), fun h => by simpa [sput] using h14 (by simpa [did] using h), hT⟩
                  · have g4 := h4 (by simp [hdep])
                    have g5 := h5 (by simp [hdep])
                    unfold OpSteps
                    simp [go_sem, evS, g4, g5, wz]
                    exact ⟨fun h => by simpa [sput] using h0 (by simpa [did] using h), fun h => by simpa [sput] using h1 (by simpa [did] using h), fun h => by simpa [sput] using h2 (by simpa [did] using h), fun h => by simpa [sput] using h3 (by simpa [did] using h), fun h => by simpa [sput] using h4 (by simpa [did] using h), fun h => by simpa [sput] using h5 (by simpa [did] using h), fun _ => by simp [sput], fun h => by simpa [sput] using h7 (by simpa [did] using h), fun h => by simpa [sput] using h8 (by simpa [did] using h), fun h => by simpa [sput] using h9 (by simpa [did] using h), fun h => by simpa [sput] using h10 (by simpa [did] using h), fun h => by simpa [sput] using h11 (by simpa [did] using h), fun h => by simpa [sput] using h12 (by simpa [did] using h), fun h => by simpa [sput] using h13 (by simpa [did] using h), fun h => by simpa [sput] using h14 (by simpa [did] using h), hT⟩
                  · have g6 := h6 (by simp [hdep])
                    unfold OpSteps
                    simp [go_sem, evS, g6, wn]
                    exact ⟨fun h => by simpa [sput] using h0 (by simpa [did] using h), fun h => by simpa [sput] using h1 (by simpa [did] using h), fun h => by simpa [sput] using h2 (by simpa [did] using h), fun h => by simpa [sput] using h3 (by simpa [did] using h), fun h => by simpa [sput] using h4 (by simpa [did] using h), fun h => by simpa [sput] using h5 (by simpa [did] using h), fun h => by simpa [sput] using h6 (by simpa [did] using h), fun _ => by simp [sput], fun h => by simpa [sput] using h8 (by simpa [did] using h), fun h => by simpa [sput] using h9 (by simpa [did] using h), fun h => by simpa [sput] using h10 (by simpa [did] using h), fun h => by simpa [sput] using h11 (by simpa [did] using h), fun h => by simpa [sput] using h12 (by simpa [did] using h), fun h => by simpa [sput] using h13 (by simpa [did] using h), fun h => by simpa [sput] using h14 (by simpa [did] using h), hT⟩
                  · have g3 := h3 (by simp [hdep])
                    have g7 := h7 (by simp [hdep])
                    unfold OpSteps
                    simp [go_sem, evS, g3, g7]
                    refine (HSk.out W).mono ?_
                    rintro e W' ⟨rfl, hb⟩
                    refine ⟨_, rfl, ?_⟩
                    exact ⟨fun h => by simpa [sput] using h0 (by simpa [did] using h), fun h => by simpa [sput] using h1 (by simpa [did] using h), fun h => by simpa [sput] using h2 (by simpa [did] using h), fun h => by simpa [sput] using h3 (by simpa [did] using h), fun h => by simpa [sput] using h4 (by simpa [did] using h), fun h => by simpa [sput] using h5 (by simpa [did] using h), fun h => by simpa [sput] using h6 (by simpa [did] using h), fun h => by simpa [sput] using h7 (by simpa [did] using h), fun _ => by simp [sput], fun h => by simpa [sput] using h9 (by simpa [did] using h), fun h => by simpa [sput] using h10 (by simpa [did] using h), fun h => by simpa [sput] using h11 (by simpa [did] using h), fun h => by simpa [sput] using h12 (by simpa [did] using h), fun h => by simpa [sput] using h13 (by simpa [did] using h), fun h => by simpa [sput] using h14 (by simpa [did] using h), below_nx hT hb⟩
                  · unfold OpSteps
                    obtain ⟨p0, p1, p2, p3, p4⟩ := cells5 (HZw.out.below hT HZw.out.lt)
                    simp [go_sem, evS, f3, p0, p1, p2, p3, p4]
                    exact ⟨fun h => by simpa [sput] using h0 (by simpa [did] using h), fun h => by simpa [sput] using h1 (by simpa [did] using h), fun h => by simpa [sput] using h2 (by simpa [did] using h), fun h => by simpa [sput] using h3 (by simpa [did] using h), fun h => by simpa [sput] using h4 (by simpa [did] using h), fun h => by simpa [sput] using h5 (by simpa [did] using h), fun h => by simpa [sput] using h6 (by simpa [did] using h), fun h => by simpa [sput] using h7 (by simpa [did] using h), fun h => by simpa [sput] using h8 (by simpa [did] using h), fun _ => by simp [sput], fun h => by simpa [sput] using h10 (by simpa [did] using h), fun h => by simpa [sput] using h11 (by simpa [did] using h), fun h => by simpa [sput] using h12 (by simpa [did] using h), fun h => by simpa [sput] using h13 (by simpa [did] using h), fun h => by simpa [sput] using h14 (by simpa [did] using h), hT⟩
                  · unfold OpSteps
                    simp [go_sem, evS, f9]
                    exact ⟨fun h => by simpa [sput] using h0 (by simpa [did] using h), fun h => by simpa [sput] using h1 (by simpa [did] using h), fun h => by simpa [sput] using h2 (by simpa [did] using h), fun h => by simpa [sput] using h3 (by simpa [did] using h), fun h => by simpa [sput] using h4 (by simpa [did] using h), fun h => by simpa [sput] using h5 (by simpa [did] using h), fun h => by simpa [sput] using h6 (by simpa [did] using h), fun h => by simpa [sput] using h7 (by simpa [did] using h), fun h => by simpa [sput] using h8 (by simpa [did] using h), fun h => by simpa [sput] using h9 (by simpa [did] using h), fun _ => by simp [sput], fun h => by simpa [sput] using h11 (by simpa [did] using h), fun h => by simpa [sput] using h12 (by simpa [did] using h), fun h => by simpa [sput] using h13 (by simpa [did] using h), fun h => by simpa [sput] using h14 (by simpa [did] using h), hT⟩
                  · unfold OpSteps
                    simp [go_sem, evS, f11]
                    exact ⟨fun h => by simpa [sput] using h0 (by simpa [did] using h), fun h => by simpa [sput] using h1 (by simpa [did] using h), fun h => by simpa [sput] using h2 (by simpa [did] using h), fun h => by simpa [sput] using h3 (by simpa [did] using h), fun h => by simpa [sput] using h4 (by simpa [did] using h), fun h => by simpa [sput] using h5 (by simpa [did] using h), fun h => by simpa [sput] using h6 (by simpa [did] using h), fun h => by simpa [sput] using h7 (by simpa [did] using h), fun h => by simpa [sput] using h8 (by simpa [did] using h), fun h => by simpa [sput] using h9 (by simpa [did] using h), fun h => by simpa [sput] using h10 (by simpa [did] using h), fun _ => by simp [sput], fun h => by simpa [sput] using h12 (by simpa [did] using h), fun h => by simpa [sput] using h13 (by simpa [did] using h), fun h => by simpa [sput] using h14 (by simpa [did] using h), hT⟩
                  · have g9 := h9 (by simp [hdep])
                    have g10 := h10 (by simp [hdep])
                    have g11 := h11 (by simp [hdep])
                    unfold OpSteps
                    simp [go_sem, evS, g9, g10, g11]
                    refine (HMk.out W hT).mono ?_
                    rintro e W' ⟨rfl, hb⟩
                    refine ⟨_, rfl, ?_⟩
                    exact ⟨fun h => by simpa [sput] using h0 (by simpa [did] using h), fun h => by simpa [sput] using h1 (by simpa [did] using h), fun h => by simpa [sput] using h2 (by simpa [did] using h), fun h => by simpa [sput] using h3 (by simpa [did] using h), fun h => by simpa [sput] using h4 (by simpa [did] using h), fun h => by simpa [sput] using h5 (by simpa [did] using h), fun h => by simpa [sput] using h6 (by simpa [did] using h), fun h => by simpa [sput] using h7 (by simpa [did] using h), fun h => by simpa [sput] using h8 (by simpa [did] using h), fun h => by simpa [sput] using h9 (by simpa [did] using h), fun h => by simpa [sput] using h10 (by simpa [did] using h), fun h => by simpa [sput] using h11 (by simpa [did] using h), fun _ => by simp [sput], fun h => by simpa [sput] using h13 (by simpa [did] using h), fun h => by simpa [sput] using h14 (by simpa [did] using h), below_nx hT hb⟩
                  · have g8 := h8 (by simp [hdep])
                    have g12 := h12 (by simp [hdep])
                    unfold OpSteps
                    simp [go_sem, evS, g8, g12]
                    refine (HEk.out W).mono ?_
                    rintro e W' ⟨rfl, rfl⟩
                    refine ⟨_, rfl, ?_⟩
                    exact ⟨fun h => by simpa [sput] using h0 (by simpa [did] using h), fun h => by simpa [sput] using h1 (by simpa [did] using h), fun h => by simpa [sput] using h2 (by simpa [did] using h), fun h => by simpa [sput] using h3 (by simpa [did] using h), fun h => by simpa [sput] using h4 (by simpa [did] using h), fun h => by simpa [sput] using h5 (by simpa [did] using h), fun h => by simpa [sput] using h6 (by simpa [did] using h), fun h => by simpa [sput] using h7 (by simpa [did] using h), fun h => by simpa [sput] using h8 (by simpa [did] using h), fun h => by simpa [sput] using h9 (by simpa [did] using h), fun h => by simpa [sput] using h10 (by simpa [did] using h), fun h => by simpa [sput] using h11 (by simpa [did] using h), fun h => by simpa [sput] using h12 (by simpa [did] using h), fun _ => by simp [sput], fun h => by simpa [sput] using h14 (by simpa [did] using h), hT⟩
                  · have g13 := h13 (by simp [hdep])
                    unfold OpSteps
                    simp [go_sem, evS, g13]
                    exact ⟨fun h => by simpa [sput] using h0 (by simpa [did] using h), fun h => by simpa [sput] using h1 (by simpa [did] using h), fun h => by simpa [sput] using h2 (by simpa [did] using h), fun h => by simpa [sput] using h3 (by simpa [did] using h), fun h => by simpa [sput] using h4 (by simpa [did] using h), fun h => by simpa [sput] using h5 (by simpa [did] using h), fun h => by simpa [sput] using h6 (by simpa [did] using h), fun h => by simpa [sput] using h7 (by simpa [did] using h), fun h => by simpa [sput] using h8 (by simpa [did] using h), fun h => by simpa [sput] using h9 (by simpa [did] using h), fun h => by simpa [sput] using h10 (by simpa [did] using h), fun h => by simpa [sput] using h11 (by simpa [did] using h), fun h => by simpa [sput] using h12 (by simpa [did] using h), fun h => by simpa [sput] using h13 (by simpa [did] using h), fun _ => by simp [sput], hT⟩
                intro d s W hJ hd
                obtain ⟨h0, h1, h2, h3, h4, h5, h6, h7, h8, h9, h10, h11, h12, h13, h14, hT⟩ := hJ
                have hs := h14 (hd 14 (by decide))
                have HBe := Lib.hid (below_nx HBk.out hT)
                clear h0 h1 h2 h3 h4 h5 h6 h7 h8 h9 h10 h11 h12 h13 h14 hT hd
                simp [setAll, hs]
                clear hs

                go_wp2_with fail
                go_ret
                exact ⟨by rw [gridB_false hlt hkl HOk1.out]; rfl, below_nx HB3.out (below_nx HBl.out HBe.out)⟩
              | true =>
                refine wp_region_inv [46, 47, 48, 49, 50, 51, 52, 53, 54, 55, 56, 57, 58, 59, 60] (fun d s W => (d 0 = true → s 46 = .agg #[.slice (some ⟨g, 0, none⟩) N N, .int .i64 0, .int .i64 (R : Int), .int .i64 (C : Int), .int .i64 (D : Int)]) ∧ (d 1 = true → s 47 = .int .i64 (q : Int)) ∧ (d 2 = true → s 48 = .int .i64 (k : Int)) ∧ (d 3 = true → s 49 = .float .f64 y) ∧ (d 4 = true → s 50 = .int .i64 a) ∧ (d 5 = true → s 51 = .int .i64 b) ∧ (d 6 = true → s 52 = .int .i64 S1) ∧ (d 7 = true → s 53 = .int .i64 S2) ∧ (d 8 = true → s 54 = .float .f64 z2) ∧ (d 9 = true → s 55 = .agg #[.slice A n c, .int .i64 (o : Int), .int .i64 (R : Int), .int .i64 (C : Int), .int .i64 (L : Int)]) ∧ (d 10 = true → s 56 = .int .i64 (q : Int)) ∧ (d 11 = true → s 57 = .int .i64 (k : Int)) ∧ (d 12 = true → s 58 = .float .f64 x) ∧ (d 13 = true → s 59 = .bool true) ∧ (d 14 = true → s 60 = .bool false) ∧ Below wr.heap.size wr W)
                  rfl (by kernel_rfl) ?_ ?_ ?_
                · exact ⟨by simp, by simp, by simp, by simp, by simp, by simp, by simp, by simp, by simp, by simp, by simp, by simp, by simp, by simp, by simp, (Below.refl _ _).drew⟩
                · refine ⟨?_, ?_, ?_, ?_, ?_, ?_, ?_, ?_, ?_, ?_, ?_, ?_, ?_, ?_, ?_, trivial⟩
                  all_goals
                    intro d s W hJ hfr hd hdep
                    simp only [List.mem_cons, forall_eq_or_imp, List.not_mem_nil, false_implies, implies_true, and_true, Region.binds] at hdep
                    have f3 := hfr 3 (by decide)
                    have f7 := hfr 7 (by decide)
                    have f9 := hfr 9 (by decide)
                    have f10 := hfr 10 (by decide)
                    have f11 := hfr 11 (by decide)
                    have f12 := hfr 12 (by decide)
                    simp at f3 f7 f9 f10 f11 f12 hdep
                    obtain ⟨h0, h1, h2, h3, h4, h5, h6, h7, h8, h9, h10, h11, h12, h13, h14, hT⟩ := hJ
                  · unfold OpSteps
                    obtain ⟨p0, p1, p2, p3, p4⟩ := cells5 (HSw.out.below hT HSw.out.lt)
                    simp [go_sem, evS, f7, p0, p1, p2, p3, p4]
                    exact ⟨fun _ => by simp [sput], fun h => by simpa [sput] using h1 (by simpa [did] using h), fun h => by simpa [sput] using h2 (by simpa [did] using h), fun h => by simpa [sput] using h3 (by simpa [did] using h), fun h => by simpa [sput] using h4 (by simpa [did] using h), fun h => by simpa [sput] using h5 (by simpa [did] using h), fun h => by simpa [sput] using h6 (by simpa [did] using h), fun h => by simpa [sput] using h7 (by simpa [did] using h), fun h => by simpa [sput] using h8 (by simpa [did] using h), fun h => by simpa [sput] using h9 (by simpa [did] using h), fun h => by simpa [sput] using h10 (by simpa [did] using h), fun h => by simpa [sput] using h11 (by simpa [did] using h), fun h => by simpa [sput] using h12 (by simpa [did] using h), fun h => by simpa [sput] using h13 (by simpa [did] using h), fun h => by simpa [sput] using h14 (by simpa [did] using h), hT⟩
                  · unfold OpSteps
                    simp [go_sem, evS, f9]
                    exact ⟨fun h => by simpa [sput] using h0 (by simpa [did] using h), fun _ => by simp [sput], fun h => by simpa [sput] using h2 (by simpa [did] using h), fun h => by simpa [sput] using h3 (by simpa [did] using h), fun h => by simpa [sput] using h4 (by simpa [did] using h), fun h => by simpa [sput] using h5 (by simpa [did] using h), fun h => by simpa [sput] using h6 (by simpa [did] using h), fun h => by simpa [sput] using h7 (by simpa [did] using h), fun h => by simpa [sput] using h8 (by simpa [did] using h), fun h => by simpa [sput] using h9 (by simpa [did] using h), fun h => by simpa [sput] using h10 (by simpa [did] using h), fun h => by simpa [sput] using h11 (by simpa [did] using h), fun h => by simpa [sput] using h12 (by simpa [did] using h), fun h => by simpa [sput] using h13 (by simpa [did] using h), fun h => by simpa [sput] using h14 (by simpa [did] using h), hT⟩
                  · unfold OpSteps
                    simp [go_sem, evS, f11]
                    exact ⟨fun h => by simpa [sput] using h0 (by simpa [did] using h), fun h => by simpa [sput] using h1 (by simpa [did] using h), fun _ => by simp [sput], fun h => by simpa [sput] using h3 (by simpa [did] using h), fun h => by simpa [sput] using h4 (by simpa [did] using h), fun h => by simpa [sput] using h5 (by simpa [did] using h), fun h => by simpa [sput] using h6 (by simpa [did] using h), fun h => by simpa [sput] using h7 (by simpa [did] using h), fun h => by simpa [sput] using h8 (by simpa [did] using h), fun h => by simpa [sput] using h9 (by simpa [did] using h), fun h => by simpa [sput] using h10 (by simpa [did] using h), fun h => by simpa [sput] using h11 (by simpa [did] using h), fun h => by simpa [sput] using h12 (by simpa [did] using h), fun h => by simpa [sput] using h13 (by simpa [did] using h), fun h => by simpa [sput] using h14 (by simpa [did] using h), hT⟩
                  · have g0 := h0 (by simp [hdep])
                    have g1 := h1 (by simp [hdep])
                    have g2 := h2 (by simp [hdep])
                    unfold OpSteps
                    simp [go_sem, evS, g0, g1, g2]
                    refine (HVk.out W hT).mono ?_
                    rintro e W' ⟨rfl, hb⟩
                    refine ⟨_, rfl, ?_⟩
                    exact ⟨fun h => by simpa [sput] using h0 (by simpa [did] using h), fun h => by simpa [sput] using h1 (by simpa [did] using h), fun h => by simpa [sput] using h2 (by simpa [did] using h), fun _ => by simp [sput], fun h => by simpa [sput] using h4 (by simpa [did] using h), fun h => by simpa [sput] using h5 (by simpa [did] using h), fun h => by simpa [sput] using h6 (by simpa [did] using h), fun h => by simpa [sput] using h7 (by simpa [did] using h), fun h => by simpa [sput] using h8 (by simpa [did] using h), fun h => by simpa [sput] using h9 (by simpa [did] using h), fun h => by simpa [sput] using h10 (by simpa [did] using h), fun h => by simpa [sput] using h11 (by simpa [did] using h), fun h => by simpa [sput] using h12 (by simpa [did] using h), fun h => by simpa [sput] using h13 (by simpa [did] using h), fun h => by simpa [sput] using h14 (by simpa [did] using h), below_nx hT hb⟩
                  · unfold OpSteps
                    simp [go_sem, evS, f10]
                    exact ⟨fun h => by simpa [sput] using h0 (by simpa [did] using h), fun h => by simpa [sput] using h1 (by simpa [did] using h), fun h => by simpa [sput] using h2 (by simpa [did] using h), fun h => by simpa [sput] using h3 (by simpa [did] using h), fun _ => by simp [sput], fun h => by simpa [sput] using h5 (by simpa [did] using h), fun h => by simpa [sput] using h6 (by simpa [did] using h), fun h => by simpa [sput] using h7 (by simpa [did] using h), fun h => by simpa [sput] using h8 (by simpa [did] using h), fun h => by simpa [sput] using h9 (by simpa [did] using h), fun h => by simpa [sput] using h10 (by simpa [did] using h), fun h => by simpa [sput] using h11 (by simpa [did] using h), fun h => by simpa [sput] using h12 (by simpa [did] using h), fun h => by simpa [sput] using h13 (by simpa [did] using h), fun h => by simpa [sput] using h14 (by simpa [did] using h), hT⟩
                  · unfold OpSteps
                    simp [go_sem, evS, f12]
                    exact ⟨fun h => by simpa [sput] using h0 (by simpa [did] using h), fun h => by simpa [sput] using h1 (by simpa [did] using h), fun h => by simpa [sput] using h2 (by simpa [did] using h), fun h => by simpa [sput] using h3 (by simpa [did] using h), fun h => by simpa [sput] using h4 (by simpa [did] using h), fun _ => by simp [sput], fun h => by simpa [sput] using h6 (by simpa [did] using h), fun h => by simpa [sput] using h7 (by simpa [did] using h), fun h => by simpa [sput] using h8 (by simpa [did] using h), fun h => by simpa [sput] using h9 (by simpa [did] using h), fun h => by simpa [sput] using h10 (by simpa [did] using h), fun h => by simpa [sput] using h11 (by simpa [did] using h), fun h => by simpa [sput] using h12 (by simpa [did] using h), fun h => by simpa [sput] using h13 (by simpa [did] using h), fun h => by simpa [sput] using h14 (by simpa [did] using h), hT⟩
                  · have g4 := h4 (by simp [hdep])
                    have g5 := h5 (by simp [hdep])
                    unfold OpSteps
                    simp [go_sem, evS, g4, g5, wz]
                    exact ⟨fun h => by simpa [sput] using h0 (by simpa [did] using h), fun h => by simpa [sput] using h1 (by simpa [did] using h), fun h => by simpa [sput] using h2 (by simpa [did] using h), fun h => by simpa [sput] using h3 (by simpa [did] using h), fun h => by simpa [sput] using h4 (by simpa [did] using h), fun h => by simpa [sput] using h5 (by simpa [did] using h), fun _ => by simp [sput], fun h => by simpa [sput] using h7 (by simpa [did] using h), fun h => by simpa [sput] using h8 (by simpa [did] using h), fun h => by simpa [sput] using h9 (by simpa [did] using h), fun h => by simpa [sput] using h10 (by simpa [did] using h), fun h => by simpa [sput] using h11 (by simpa [did] using h), fun h => by simpa [sput] using h12 (by simpa [did] using h), fun h => by simpa [sput] using h13 (by simpa [did] using h), fun h => by simpa [sput] using h14 (by simpa [did] using h), hT⟩
                  · have g6 := h6 (by simp [hdep])
                    unfold OpSteps
                    simp [go_sem, evS, g6, wn]
                    exact ⟨fun h => by simpa [sput] using h0 (by simpa [did] using h), fun h => by simpa [sput] using h1 (by simpa [did] using h), fun h => by simpa [sput] using h2 (by simpa [did] using h), fun h => by simpa [sput] using h3 (by simpa [did] using h), fun h => by simpa [sput] using h4 (by simpa [did] using h), fun h => by simpa [sput] using h5 (by simpa [did] using h), fun h => by simpa [sput] using h6 (by simpa [did] using h), fun _ => by simp [sput], fun h => by simpa [sput] using h8 (by simpa [did] using h), fun h => by simpa [sput] using h9 (by simpa [did] using h), fun h => by simpa [sput] using h10 (by simpa [did] using h), fun h => by simpa [sput] using h11 (by simpa [did] using h), fun h => by simpa [sput] using h12 (by simpa [did] using h), fun h => by simpa [sput] using h13 (by simpa [did] using h), fun h => by simpa [sput] using h14 (by simpa [did] using h), hT⟩
                  · have g3 := h3 (by simp [hdep])
                    have g7 := h7 (by simp [hdep])
                    unfold OpSteps
                    simp [go_sem, evS, g3, g7]
                    refine (HSk.out W).mono ?_
                    rintro e W' ⟨rfl, hb⟩
                    refine ⟨_, rfl, ?_⟩
                    exact ⟨fun h => by simpa [sput] using h0 (by simpa [did] using h), fun h => by simpa [sput] using h1 (by simpa [did] using h), fun h => by simpa [sput] using h2 (by simpa [did] using h), fun h => by simpa [sput] using h3 (by simpa [did] using h), fun h => by simpa [sput] using h4 (by simpa [did] using h), fun h => by simpa [sput] using h5 (by simpa [did] using h), fun h => by simpa [sput] using h6 (by simpa [did] using h), fun h => by simpa [sput] using h7 (by simpa [did] using h), fun _ => by simp [sput], fun h => by simpa [sput] using h9 (by simpa [did] using h), fun h => by simpa [sput] using h10 (by simpa [did] using h), fun h => by simpa [sput] using h11 (by simpa [did] using h), fun h => by simpa [sput] using h12 (by simpa [did] using h), fun h => by simpa [sput] using h13 (by simpa [did] using h), fun h => by simpa [sput] using h14 (by simpa [did] using h), below_nx hT hb⟩
                  · unfold OpSteps
                    obtain ⟨p0, p1, p2, p3, p4⟩ := cells5 (HZw.out.below hT HZw.out.lt)
                    simp [go_sem, evS, f3, p0, p1, p2, p3, p4]
                    exact ⟨fun h => by simpa [sput] using h0 (by simpa [did] using h), fun h => by simpa [sput] using h1 (by simpa [did] using h), fun h => by simpa [sput] using h2 (by simpa [did] using h), fun h => by simpa [sput] using h3 (by simpa [did] using h), fun h => by simpa [sput] using h4 (by simpa [did] using h), fun h => by simpa [sput] using h5 (by simpa [did] using h), fun h => by simpa [sput] using h6 (by simpa [did] using h), fun h => by simpa [sput] using h7 (by simpa [did] using h), fun h => by simpa [sput] using h8 (by simpa [did] using h), fun _ => by simp [sput], fun h => by simpa [sput] using h10 (by simpa [did] using h), fun h => by simpa [sput] using h11 (by simpa [did] using h), fun h => by simpa [sput] using h12 (by simpa [did] using h), fun h => by simpa [sput] using h13 (by simpa [did] using h), fun h => by simpa [sput] using h14 (by simpa [did] using h), hT⟩
                  · unfold OpSteps
                    simp [go_sem, evS, f9]
                    exact ⟨fun h => by simpa [sput] using h0 (by simpa [did] using h), fun h => by simpa [sput] using h1 (by simpa [did] using h), fun h => by simpa [sput] using h2 (by simpa [did] using h), fun h => by simpa [sput] using h3 (by simpa [did] using h), fun h => by simpa [sput] using h4 (by simpa [did] using h), fun h => by simpa [sput] using h5 (by simpa [did] using h), fun h => by simpa [sput] using h6 (by simpa [did] using h), fun h => by simpa [sput] using h7 (by simpa [did] using h), fun h => by simpa [sput] using h8 (by simpa [did] using h), fun h => by simpa [sput] using h9 (by simpa [did] using h), fun _ => by simp [sput], fun h => by simpa [sput] using h11 (by simpa [did] using h), fun h => by simpa [sput] using h12 (by simpa [did] using h), fun h => by simpa [sput] using h13 (by simpa [did] using h), fun h => by simpa [sput] using h14 (by simpa [did] using h), hT⟩
                  · unfold OpSteps
                    simp [go_sem, evS, f11]
                    exact ⟨fun h => by simpa [sput] using h0 (by simpa [did] using h), fun h => by simpa [sput] using h1 (by simpa [did] using h), fun h => by simpa [sput] using h2 (by simpa [did] using h), fun h => by simpa [sput] using h3 (by simpa [did] using h), fun h => by simpa [sput] using h4 (by simpa [did] using h), fun h => by simpa [sput] using h5 (by simpa [did] using h), fun h => by simpa [sput] using h6 (by simpa [did] using h), fun h => by simpa [sput] using h7 (by simpa [did] using h), fun h => by simpa [sput] using h8 (by simpa [did] using h), fun h => by simpa [sput] using h9 (by simpa [did] using h), fun h => by simpa [sput] using h10 (by simpa [did] using h), fun _ => by simp [sput], fun h => by simpa [sput] using h12 (by simpa [did] using h), fun h => by simpa [sput] using h13 (by simpa [did] using h), fun h => by simpa [sput] using h14 (by simpa [did] using h), hT⟩
                  · have g9 := h9 (by simp [hdep])
                    have g10 := h10 (by simp [hdep])
                    have g11 := h11 (by simp [hdep])
                    unfold OpSteps
                    simp [go_sem, evS, g9, g10, g11]
                    refine (HMk.out W hT).mono ?_
                    rintro e W' ⟨rfl, hb⟩
                    refine ⟨_, rfl, ?_⟩
                    exact ⟨fun h => by simpa [sput] using h0 (by simpa [did] using h), fun h => by simpa [sput] using h1 (by simpa [did] using h), fun h => by simpa [sput] using h2 (by simpa [did] using h), fun h => by simpa [sput] using h3 (by simpa [did] using h), fun h => by simpa [sput] using h4 (by simpa [did] using h), fun h => by simpa [sput] using h5 (by simpa [did] using h), fun h => by simpa [sput] using h6 (by simpa [did] using h), fun h => by simpa [sput] using h7 (by simpa [did] using h), fun h => by simpa [sput] using h8 (by simpa [did] using h), fun h => by simpa [sput] using h9 (by simpa [did] using h), fun h => by simpa [sput] using h10 (by simpa [did] using h), fun h => by simpa [sput] using h11 (by simpa [did] using h), fun _ => by simp [sput], fun h => by simpa [sput] using h13 (by simpa [did] using h), fun h => by simpa [sput] using h14 (by simpa [did] using h), below_nx hT hb⟩
                  · have g8 := h8 (by simp [hdep])
                    have g12 := h12 (by simp [hdep])
                    unfold OpSteps
                    simp [go_sem, evS, g8, g12]
                    refine (HEk.out W).mono ?_
                    rintro e W' ⟨rfl, rfl⟩
                    refine ⟨_, rfl, ?_⟩
                    exact ⟨fun h => by simpa [sput] using h0 (by simpa [did] using h), fun h => by simpa [sput] using h1 (by simpa [did] using h), fun h => by simpa [sput] using h2 (by simpa [did] using h), fun h => by simpa [sput] using h3 (by simpa [did] using h), fun h => by simpa [sput] using h4 (by simpa [did] using h), fun h => by simpa [sput] using h5 (by simpa [did] using h), fun h => by simpa [sput] using h6 (by simpa [did] using h), fun h => by simpa [sput] using h7 (by simpa [did] using h), fun h => by simpa [sput] using h8 (by simpa [did] using h), fun h => by simpa [sput] using h9 (by simpa [did] using h), fun h => by simpa [sput] using h10 (by simpa [did] using h), fun h => by simpa [sput] using h11 (by simpa [did] using h), fun h => by simpa [sput] using h12 (by simpa [did] using h), fun _ => by simp [sput], fun h => by simpa [sput] using h14 (by simpa [did] using h), hT⟩
                  · have g13 := h13 (by simp [hdep])
                    unfold OpSteps
                    simp [go_sem, evS, g13]
                    exact ⟨fun h => by simpa [sput] using h0 (by simpa [did] using h), fun h => by simpa [sput] using h1 (by simpa [did] using h), fun h => by simpa [sput] using h2 (by simpa [did] using h), fun h => by simpa [sput] using h3 (by simpa [did] using h), fun h => by simpa [sput] using h4 (by simpa [did] using h), fun h => by simpa [sput] using h5 (by simpa [did] using h), fun h => by simpa [sput] using h6 (by simpa [did] using h), fun h => by simpa [sput] using h7 (by simpa [did] using h), fun h => by simpa [sput] using h8 (by simpa [did] using h), fun h => by simpa [sput] using h9 (by simpa [did] using h), fun h => by simpa [sput] using h10 (by simpa [did] using h), fun h => by simpa [sput] using h11 (by simpa [did] using h), fun h => by simpa [sput] using h12 (by simpa [did] using h), fun h => by simpa [sput] using h13 (by simpa [did] using h), fun _ => by simp [sput], hT⟩
                intro d s W hJ hd
                obtain ⟨h0, h1, h2, h3, h4, h5, h6, h7, h8, h9, h10, h11, h12, h13, h14, hT⟩ := hJ
                have hs := h14 (hd 14 (by decide))
                have HBe := Lib.hid (below_nx HBk.out hT)
                clear h0 h1 h2 h3 h4 h5 h6 h7 h8 h9 h10 h11 h12 h13 h14 hT hd
                simp [setAll, hs]
                clear hs

                go_wp2_with fail
                go_roundw
                case rel => exact ⟨k + 1, by omega, by go_num, Lib.hid (fun j hj => by
                  by_cases e : j = k
                  · rw [e]; exact HOk1.out
                  · exact HOj.out j (by omega)), HBe.out⟩
                case measure => simp [intOf]; omega
            · obtain rfl : C = k := by omega
              have hkc : ¬ (C : Int) < (C : Int) := by omega
              have HBa := Lib.hid (below_nx HBl.out HBk.out)
              have HOn := Lib.hid (show ∀ i, i < q + 1 → ∀ j, j < C → okX zr zc X i j = true from fun i hi => by
                by_cases e : i = q
                · rw [e]; exact HOj.out
                · exact HOk.out i (by omega))
              go_wp2_with fail
              go_roundw
              case rel => exact ⟨q + 1, by omega, by go_num, Lib.hid HOn.out, HBa.out⟩
              case measure => simp [intOf]; omega
        · obtain rfl : R = q := by omega
          have hqc : ¬ (R : Int) < (R : Int) := by omega
          have HE := Lib.hid ((gridB_iff R C (okX zr zc X)).2 HOk.out)
          go_wp2_with fail
          go_ret
          exact ⟨by rw [HE.out]; rfl, below_nx HB3.out HBl.out⟩
end Go.Proofs.Ytelpdbkkefpjhaa
