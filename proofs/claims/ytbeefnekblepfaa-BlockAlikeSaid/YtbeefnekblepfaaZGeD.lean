/-
Gemm: the document's Mul. Conditions: the tables have fewer than 2^20 numbers.
-/
import Derived.Test.YtbeefnekblepfaaUaaq
import Derived.Test.YtbeefnekblepfaaZGvC
set_option linter.unusedVariables false
set_option linter.unusedSimpArgs false
set_option linter.unnecessarySimpa false
namespace Go.Proofs.Ytbeefnekblepfaa
open Go.RowKit
attribute [local go_sem ↓] Go.wp_at_zero Go.wp_at_succ

theorem rgbegin_e (b y : Nat) (w : World) : Calls Try.prog 27 #[.float .f64 b, .float .f64 y] w fun e w' => ∃ r, e = .returned (.float .f64 r) ∧ BegR b y r ∧ Below w.heap.size w w' := by
  obtain ⟨z, hz⟩ : ∃ z, zB b = z := ⟨_, rfl⟩
  have HZ := Lib.hid (show ∀ r, (if z = true then r = 0 else Comes .mul b y r) → BegR b y r from fun r h => by unfold BegR; rw [hz]; exact h)
  have HTi := Lib.hid (fun W => rtimes_any b y W)
  unfold zB at hz
  cases z
  · go_enter Try.func27, Try.ntmps27
    go_wp2_with fail
    refine (HTi.out _).mono ?_
    rintro e w1 ⟨r, rfl, hr, hb⟩
    have HR := Lib.hid (And.intro hr hb)
    clear hr hb
    go_wp2_with fail
    go_ret
    exact ⟨r, rfl, HZ.out _ (by simpa using HR.out.1), HR.out.2⟩
  · go_enter Try.func27, Try.ntmps27
    go_wp2_with fail
    go_ret
    exact ⟨_, rfl, HZ.out _ (by simp), Below.refl _ _⟩
def GeTS (a : Nat) (TX : List Nat) (K : Nat) (TY : List Nat) (C i j k s r : Nat) : Prop := ∃ p, MulR a (TX.getD (i * K + k) 0) (TY.getD (k * C + j) 0) p ∧ Comes .add s p r
def GeT (a b : Nat) (TX : List Nat) (K : Nat) (TY TZ : List Nat) (C i j r : Nat) : Prop := ∃ s, BegR b (TZ.getD (i * C + j) 0) s ∧ Chn (GeTS a TX K TY C i j) s K r

set_option maxRecDepth 100000 in
set_option maxHeartbeats 2000000 in
theorem rgemul_any (a b : Nat) (R K C : Nat) (gX NX cX : Nat) (TX : List Nat) (gY NY cY : Nat) (TY : List Nat) (gZ N cZ : Nat) (TZ : List Nat) (w : World) (hX : Row w (some ⟨gX, 0, none⟩) (f64s TX)) (hXl : TX.length = NX) (hNX : R * K = NX) (hY : Row w (some ⟨gY, 0, none⟩) (f64s TY)) (hYl : TY.length = NY) (hNY : K * C = NY) (hZ : Row w (some ⟨gZ, 0, none⟩) (f64s TZ)) (hZl : TZ.length = N) (hN : R * C = N) (hNb : N < 1048576) (hNXb : NX < 1048576) (hNYb : NY < 1048576) (hRb : R < 1048576) (hKb : K < 1048576) (hCb : C < 1048576) :
    Calls Try.prog 14 #[.float .f64 a, tbl R K gX NX cX, tbl K C gY NY cY, .float .f64 b, tbl R C gZ N cZ] w (RetT R C N (fun T' => ∀ i, i < R → ∀ j, j < C → (GeT a b TX K TY TZ C) i j (T'.getD (i * C + j) 0)) w) := by
  have HSl := Lib.hid (fun i j (hi : i < R) (hj : j < C) => tab_facts (R := R) (C := C) (N := N) (i := i) (j := j) hN (Nat.le_of_lt hNb) hi hj)
  have HAz0 := Lib.hid (fun W (hb : Below w.heap.size w W) (x q : Nat) (hx : x < R) (hq : q < C) => rat8_any R C gZ N cZ TZ x q W (hZ.below hb) hZl hNb (by rw [← hN]; exact tab_lt hx hq))
  have HAx0 := Lib.hid (fun W (hb : Below w.heap.size w W) (x q : Nat) (hx : x < R) (hq : q < K) => rat8_any R K gX NX cX TX x q W (hX.below hb) hXl hNXb (by rw [← hNX]; exact tab_lt hx hq))
  have HAy0 := Lib.hid (fun W (hb : Below w.heap.size w W) (x q : Nat) (hx : x < K) (hq : q < C) => rat8_any K C gY NY cY TY x q W (hY.below hb) hYl hNYb (by rw [← hNY]; exact tab_lt hx hq))
  have HNw := Lib.hid (fun W => rnew_any R C N W hN (by omega) (by omega) (by omega))
  have HNb := Lib.hid hNb
  clear hX hXl hNX hY hYl hNY hZ hZl hN hNb hNXb hNYb
  unfold tbl at *
  go_enter Try.func14, Try.ntmps14
  have HX0 := Lib.hid ((((Blk.new w 39 #[.int .i64 (R : Int), .int .i64 (K : Int), .slice (some ⟨gX, 0, none⟩) NX cX]).alloc (.cells #[.int .i64 (K : Int), .int .i64 (C : Int), .slice (some ⟨gY, 0, none⟩) NY cY] 39)).alloc (.cells #[.int .i64 (R : Int), .int .i64 (C : Int), .slice (some ⟨gZ, 0, none⟩) N cZ] 39)).alloc (.cells #[.int .i64 0, .int .i64 0, .slice none 0 0] 39))
  have HY0 := Lib.hid (((Blk.new_ (w.alloc (.cells #[.int .i64 (R : Int), .int .i64 (K : Int), .slice (some ⟨gX, 0, none⟩) NX cX] 39)) 39 #[.int .i64 (K : Int), .int .i64 (C : Int), .slice (some ⟨gY, 0, none⟩) NY cY] (w.heap.size + 1) (by simp)).alloc (.cells #[.int .i64 (R : Int), .int .i64 (C : Int), .slice (some ⟨gZ, 0, none⟩) N cZ] 39)).alloc (.cells #[.int .i64 0, .int .i64 0, .slice none 0 0] 39))
  have HZ0 := Lib.hid ((Blk.new_ ((w.alloc (.cells #[.int .i64 (R : Int), .int .i64 (K : Int), .slice (some ⟨gX, 0, none⟩) NX cX] 39)).alloc (.cells #[.int .i64 (K : Int), .int .i64 (C : Int), .slice (some ⟨gY, 0, none⟩) NY cY] 39)) 39 #[.int .i64 (R : Int), .int .i64 (C : Int), .slice (some ⟨gZ, 0, none⟩) N cZ] (w.heap.size + 1 + 1) (by simp)).alloc (.cells #[.int .i64 0, .int .i64 0, .slice none 0 0] 39))
  have HE0 := Lib.hid (Blk.new_ (((w.alloc (.cells #[.int .i64 (R : Int), .int .i64 (K : Int), .slice (some ⟨gX, 0, none⟩) NX cX] 39)).alloc (.cells #[.int .i64 (K : Int), .int .i64 (C : Int), .slice (some ⟨gY, 0, none⟩) NY cY] 39)).alloc (.cells #[.int .i64 (R : Int), .int .i64 (C : Int), .slice (some ⟨gZ, 0, none⟩) N cZ] 39)) 39 #[.int .i64 0, .int .i64 0, .slice none 0 0] (w.heap.size + 1 + 1 + 1) (by simp))
  have HB0 := Lib.hid (((((Below.refl w.heap.size w).alloc (Nat.le_refl _) (.cells #[.int .i64 (R : Int), .int .i64 (K : Int), .slice (some ⟨gX, 0, none⟩) NX cX] 39)).alloc (by simp) (.cells #[.int .i64 (K : Int), .int .i64 (C : Int), .slice (some ⟨gY, 0, none⟩) NY cY] 39)).alloc (by simp; omega) (.cells #[.int .i64 (R : Int), .int .i64 (C : Int), .slice (some ⟨gZ, 0, none⟩) N cZ] 39)).alloc (by simp; omega) (.cells #[.int .i64 0, .int .i64 0, .slice none 0 0] 39))
  obtain ⟨d0, d1, d2⟩ := cells3v HZ0.out
  go_wp2_with fail
  refine (HNw.out _).mono ?_
  rintro e w1 ⟨go, rfl, hBk, hg, hb⟩
  have HX1 := Lib.hid ((HX0.out.nxt hb).alloc (.cells #[.int .i64 (R : Int), .int .i64 (C : Int), .slice (some ⟨go, 0, none⟩) N N] 39))
  have HY1 := Lib.hid ((HY0.out.nxt hb).alloc (.cells #[.int .i64 (R : Int), .int .i64 (C : Int), .slice (some ⟨go, 0, none⟩) N N] 39))
  have HZ1 := Lib.hid ((HZ0.out.nxt hb).alloc (.cells #[.int .i64 (R : Int), .int .i64 (C : Int), .slice (some ⟨go, 0, none⟩) N N] 39))
  have HE1 := Lib.hid ((HE0.out.nxt hb).alloc (.cells #[.int .i64 (R : Int), .int .i64 (C : Int), .slice (some ⟨go, 0, none⟩) N N] 39))
  have HT1 := Lib.hid (Blk.new w1 39 #[.int .i64 (R : Int), .int .i64 (C : Int), .slice (some ⟨go, 0, none⟩) N N])
  have HO1 := Lib.hid ((own_blk hBk).nxt (below_one (o := (.cells #[.int .i64 (R : Int), .int .i64 (C : Int), .slice (some ⟨go, 0, none⟩) N N] 39))))
  have HB1 := Lib.hid (below_al (below_nx HB0.out hb) (o := (.cells #[.int .i64 (R : Int), .int .i64 (C : Int), .slice (some ⟨go, 0, none⟩) N N] 39)))
  have hgl := (own_blk hBk).lt
  have hsz := hb.size
  have HNe0 := Lib.hid (show w.heap.size + 4 ≤ go ∧ w.heap.size + 4 ≤ w1.heap.size ∧ go < w1.heap.size from ⟨by simp at hg; omega, by simp at hsz; omega, hgl⟩)
  clear hb hBk hg hgl hsz d0 d1 d2
  obtain ⟨d0, d1, d2⟩ := cells3v HZ1.out
  go_wp2_with fail
  clear d0 d1 d2
  generalize hw2 : w1.alloc (.cells #[.int .i64 (R : Int), .int .i64 (C : Int), .slice (some ⟨go, 0, none⟩) N N] 39) = w2 at *
  generalize w1.heap.size = tb at *
  generalize hz : w.heap.size = z at *
  generalize hz1 : z + 1 = z1 at *
  generalize hz2 : z1 + 1 = z2 at *
  generalize hz3 : z2 + 1 = z3 at *
  have HNe := Lib.hid (show z1 = z + 1 ∧ z2 = z + 2 ∧ z3 = z + 3 ∧ z + 4 ≤ go ∧ z + 4 ≤ tb ∧ go < tb from by have := HNe0.out; omega)
  have Hz := Lib.hid hz
  clear hw2 hz hz1 hz2 hz3 HNe0
  go_loopw [12] (fun x wr => ∃ (i1 : Nat) (T1 : List Nat), i1 ≤ R ∧ x = .int .i64 (i1 : Int) ∧ Hid (Ptb N (fun i j => i * C + j) R C (GeT a b TX K TY TZ C) i1 0 T1 ∧ Own wr go T1 ∧ Blk wr z 39 #[.int .i64 (R : Int), .int .i64 (K : Int), .slice (some ⟨gX, 0, none⟩) NX cX] ∧ Blk wr z1 39 #[.int .i64 (K : Int), .int .i64 (C : Int), .slice (some ⟨gY, 0, none⟩) NY cY] ∧ Blk wr z2 39 #[.int .i64 (R : Int), .int .i64 (C : Int), .slice (some ⟨gZ, 0, none⟩) N cZ] ∧ Blk wr z3 39 #[.int .i64 0, .int .i64 0, .slice none 0 0] ∧ Blk wr tb 39 #[.int .i64 (R : Int), .int .i64 (C : Int), .slice (some ⟨go, 0, none⟩) N N] ∧ Below z w wr)) (fun x _ => R - (intOf x).toNat)
  case atStart => exact ⟨0, _, Nat.zero_le _, rfl, Lib.hid ⟨Ptb.zero (by simp), HO1.out, HX1.out, HY1.out, HZ1.out, HE1.out, HT1.out, HB1.out⟩⟩
  case round =>
    obtain ⟨i1, T1, hi1, rfl, HS⟩ := hrel
    obtain ⟨d0, d1, d2⟩ := cells3v HS.out.2.2.2.2.1
    by_cases hlt : i1 < R
    · have har2 : (i1 : Int) < (R : Int) := by omega
      have ha1 : i1 + 1 ≤ 1048576 := by omega
      go_wp2_with fail
      clear d0 d1 d2
      go_loopw [13] (fun x wr => ∃ (j1 : Nat) (T1 : List Nat), j1 ≤ C ∧ x = .int .i64 (j1 : Int) ∧ Hid (Ptb N (fun i j => i * C + j) R C (GeT a b TX K TY TZ C) i1 j1 T1 ∧ Own wr go T1 ∧ Blk wr z 39 #[.int .i64 (R : Int), .int .i64 (K : Int), .slice (some ⟨gX, 0, none⟩) NX cX] ∧ Blk wr z1 39 #[.int .i64 (K : Int), .int .i64 (C : Int), .slice (some ⟨gY, 0, none⟩) NY cY] ∧ Blk wr z2 39 #[.int .i64 (R : Int), .int .i64 (C : Int), .slice (some ⟨gZ, 0, none⟩) N cZ] ∧ Blk wr z3 39 #[.int .i64 0, .int .i64 0, .slice none 0 0] ∧ Blk wr tb 39 #[.int .i64 (R : Int), .int .i64 (C : Int), .slice (some ⟨go, 0, none⟩) N N] ∧ Below z w wr)) (fun x _ => C - (intOf x).toNat)
      case atStart => exact ⟨0, T1, Nat.zero_le _, rfl, HS⟩
      case round =>
        obtain ⟨j1, T1, hj1, rfl, HS⟩ := hrel
        obtain ⟨d0, d1, d2⟩ := cells3v HS.out.2.2.2.2.1
        by_cases hlt2 : j1 < C
        · have e5 : (j1 : Int) < (C : Int) := by omega
          have hb1 : j1 + 1 ≤ 1048576 := by omega
          have HAz1 := Lib.hid (HAz0.out wr HS.out.2.2.2.2.2.2.2 i1 j1 hlt hlt2)
          obtain ⟨v0, hv0⟩ : ∃ v0, TZ.getD (i1 * C + j1) 0 = v0 := ⟨_, rfl⟩
          have HV0 := Lib.hid hv0
          rw [hv0] at HAz1
          clear hv0
          go_wp2_with fail
          refine (HAz1.out).mono ?_
          rintro e wa ⟨rfl, hba⟩
          have HBa := Lib.hid hba
          clear hba d0 d1 d2
          go_wp2_with fail
          refine (rgbegin_e b v0 _).mono ?_
          rintro e wb ⟨sb, rfl, hsb, hbb⟩
          have HSb := Lib.hid hsb
          have HBb := Lib.hid (below_nx HBa.out hbb)
          have HBx0 := Lib.hid (HS.out.2.2.1.nxt HBb.out)
          have HBy0 := Lib.hid (HS.out.2.2.2.1.nxt HBb.out)
          have HTb0 := Lib.hid (HS.out.2.2.2.2.2.2.1.nxt HBb.out)
          have HW0 := Lib.hid (show Below z w wb from HS.out.2.2.2.2.2.2.2.trans (HBb.out.mono (by have := HS.out.2.2.1.lt; omega)))
          have HZw := Lib.hid (show z ≤ wb.heap.size from Nat.le_of_lt HBx0.out.lt)
          clear hsb hbb HBa HAz1
          generalize wr = wo at *
          go_wp2_with fail
          go_loopw [14, 15] (fun sv kv wr => ∃ (k1 s0 : Nat), k1 ≤ K ∧ sv = .float .f64 s0 ∧ kv = .int .i64 (k1 : Int) ∧ Hid (Chn (GeTS a TX K TY C i1 j1) sb k1 s0) ∧ Hid (Below wb.heap.size wb wr)) (fun _ k _ => K - (intOf k).toNat)
          case atStart => exact ⟨0, sb, Nat.zero_le _, rfl, rfl, Lib.hid rfl, Lib.hid (Below.refl _ _)⟩
          case round =>
            obtain ⟨k1, s0, hk, rfl, rfl, HC, HBl3⟩ := hrel
            have HBx := Lib.hid (HBx0.out.nxt HBl3.out)
            obtain ⟨d0, d1, d2⟩ := cells3v HBx.out
            by_cases hkC : k1 < K
            · have hkc : (k1 : Int) < (K : Int) := by omega
              have hk1 : k1 + 1 ≤ 1048576 := by omega
              have HBy := Lib.hid (HBy0.out.nxt HBl3.out)
              have HKp := Lib.hid (fun W (hb : Below wr.heap.size wr W) => Lib.hid (below_nx HBl3.out hb))
              have HAx1 := Lib.hid (fun W (hb : Below wr.heap.size wr W) => HAx0.out W (HW0.out.trans ((below_nx HBl3.out hb).mono HZw.out)) i1 k1 hlt hkC)
              have HAy1 := Lib.hid (fun W (hb : Below wr.heap.size wr W) => HAy0.out W (HW0.out.trans ((below_nx HBl3.out hb).mono HZw.out)) k1 j1 hkC hlt2)
              have HQ0 := Lib.hid (fun p r (h1 : MulR a (TX.getD (i1 * K + k1) 0) (TY.getD (k1 * C + j1) 0) p) (h2 : Comes .add s0 p r) => show (GeTS a TX K TY C i1 j1) k1 s0 r from ⟨p, h1, h2⟩)
              have HQc := Lib.hid (fun r (h : (GeTS a TX K TY C i1 j1) k1 s0 r) => Lib.hid (show Chn (GeTS a TX K TY C i1 j1) sb (k1 + 1) r from ⟨s0, HC.out, h⟩))
              obtain ⟨x, hx⟩ : ∃ x, TX.getD (i1 * K + k1) 0 = x := ⟨_, rfl⟩
              obtain ⟨y, hy⟩ : ∃ y, TY.getD (k1 * C + j1) 0 = y := ⟨_, rfl⟩
              obtain ⟨QQ, hQQ⟩ : ∃ QQ, (GeTS a TX K TY C i1 j1) k1 s0 = QQ := ⟨_, rfl⟩
              rw [hx] at HAx1 HQ0
              rw [hy] at HAy1 HQ0
              rw [hQQ] at HQ0 HQc
              have HAx := HAx1
              have HAy := HAy1
              have HQ := HQ0
              clear hx hy hQQ
              go_wp2_with fail
              clear d0 d1 d2
              refine wp_region_inv [45, 46, 47, 48, 49, 50, 51, 52, 53, 54, 55, 56, 57, 14] (fun d s W => (d 0 = true → s 45 = .float .f64 s0) ∧ (d 1 = true → s 46 = .float .f64 a) ∧ (d 2 = true → s 47 = .agg #[.int .i64 (K : Int), .int .i64 (C : Int), .slice (some ⟨gY, 0, none⟩) NY cY]) ∧ (d 3 = true → s 48 = .int .i64 (k1 : Int)) ∧ (d 4 = true → s 49 = .int .i64 (j1 : Int)) ∧ (d 5 = true → s 50 = .float .f64 y) ∧ (d 6 = true → ∃ p, s 51 = .float .f64 p ∧ Comes .mul a y p) ∧ (d 7 = true → s 52 = .agg #[.int .i64 (R : Int), .int .i64 (K : Int), .slice (some ⟨gX, 0, none⟩) NX cX]) ∧ (d 8 = true → s 53 = .int .i64 (i1 : Int)) ∧ (d 9 = true → s 54 = .int .i64 (k1 : Int)) ∧ (d 10 = true → s 55 = .float .f64 x) ∧ (d 11 = true → ∃ r, s 56 = .float .f64 r ∧ MulR a x y r) ∧ (d 12 = true → ∃ r, s 57 = .float .f64 r ∧ QQ r) ∧ (d 13 = true → ∃ r, s 14 = .float .f64 r ∧ QQ r) ∧ (d 13 = true → d 0 = true) ∧ (d 13 = false → s 14 = .float .f64 s0) ∧ Below wr.heap.size wr W)
                rfl (by kernel_rfl) ?_ ?_ ?_
              · exact ⟨by simp, by simp, by simp, by simp, by simp, by simp, by simp, by simp, by simp, by simp, by simp, by simp, by simp, by simp, by simp, fun _ => by simp, (Below.refl _ _).drew⟩
              · refine ⟨?_, ?_, ?_, ?_, ?_, ?_, ?_, ?_, ?_, ?_, ?_, ?_, ?_, ?_, trivial⟩
                all_goals
                  intro d s W hJ hfr hd hdep
                  simp only [List.mem_cons, forall_eq_or_imp, List.not_mem_nil, false_implies, implies_true, and_true, Region.binds] at hdep
                  have f0 := hfr 0 (by decide)
                  have f6 := hfr 6 (by decide)
                  have f7 := hfr 7 (by decide)
                  have f12 := hfr 12 (by decide)
                  have f13 := hfr 13 (by decide)
                  have f15 := hfr 15 (by decide)
                  simp at f0 f6 f7 f12 f13 f15 hdep
                  obtain ⟨h0, h1, h2, h3, h4, h5, h6, h7, h8, h9, h10, h11, h12, h13, x0, x1, hT⟩ := hJ
                · unfold OpSteps
                  have e14 : d 13 = false := by
                    cases h : d 13
                    · rfl
                    · have := x0 h; simp [hd] at this
                  have f14 := x1 e14
                  simp [go_sem, evS, f14]
                  exact ⟨fun _ => by simp [sput], fun h => by simpa [sput] using h1 (by simpa [did] using h), fun h => by simpa [sput] using h2 (by simpa [did] using h), fun h => by simpa [sput] using h3 (by simpa [did] using h), fun h => by simpa [sput] using h4 (by simpa [did] using h), fun h => by simpa [sput] using h5 (by simpa [did] using h), fun h => by simpa [sput] using h6 (by simpa [did] using h), fun h => by simpa [sput] using h7 (by simpa [did] using h), fun h => by simpa [sput] using h8 (by simpa [did] using h), fun h => by simpa [sput] using h9 (by simpa [did] using h), fun h => by simpa [sput] using h10 (by simpa [did] using h), fun h => by simpa [sput] using h11 (by simpa [did] using h), fun h => by simpa [sput] using h12 (by simpa [did] using h), fun h => by simpa [sput] using h13 (by simpa [did] using h), fun h => by have := x0 (by simpa [did] using h); simp [did, this], fun h => by simpa [sput] using x1 (by simpa [did] using h), hT⟩
                · unfold OpSteps
                  simp [go_sem, evS, f0]
                  exact ⟨fun h => by simpa [sput] using h0 (by simpa [did] using h), fun _ => by simp [sput], fun h => by simpa [sput] using h2 (by simpa [did] using h), fun h => by simpa [sput] using h3 (by simpa [did] using h), fun h => by simpa [sput] using h4 (by simpa [did] using h), fun h => by simpa [sput] using h5 (by simpa [did] using h), fun h => by simpa [sput] using h6 (by simpa [did] using h), fun h => by simpa [sput] using h7 (by simpa [did] using h), fun h => by simpa [sput] using h8 (by simpa [did] using h), fun h => by simpa [sput] using h9 (by simpa [did] using h), fun h => by simpa [sput] using h10 (by simpa [did] using h), fun h => by simpa [sput] using h11 (by simpa [did] using h), fun h => by simpa [sput] using h12 (by simpa [did] using h), fun h => by simpa [sput] using h13 (by simpa [did] using h), fun h => by have := x0 (by simpa [did] using h); simp [did, this], fun h => by simpa [sput] using x1 (by simpa [did] using h), hT⟩
                · unfold OpSteps
                  obtain ⟨p0, p1, p2⟩ := cells3v (HBy.out.below hT HBy.out.lt)
                  simp [go_sem, evS, f7, p0, p1, p2]
                  exact ⟨fun h => by simpa [sput] using h0 (by simpa [did] using h), fun h => by simpa [sput] using h1 (by simpa [did] using h), fun _ => by simp [sput], fun h => by simpa [sput] using h3 (by simpa [did] using h), fun h => by simpa [sput] using h4 (by simpa [did] using h), fun h => by simpa [sput] using h5 (by simpa [did] using h), fun h => by simpa [sput] using h6 (by simpa [did] using h), fun h => by simpa [sput] using h7 (by simpa [did] using h), fun h => by simpa [sput] using h8 (by simpa [did] using h), fun h => by simpa [sput] using h9 (by simpa [did] using h), fun h => by simpa [sput] using h10 (by simpa [did] using h), fun h => by simpa [sput] using h11 (by simpa [did] using h), fun h => by simpa [sput] using h12 (by simpa [did] using h), fun h => by simpa [sput] using h13 (by simpa [did] using h), fun h => by have := x0 (by simpa [did] using h); simp [did, this], fun h => by simpa [sput] using x1 (by simpa [did] using h), hT⟩
                · unfold OpSteps
                  simp [go_sem, evS, f15]
                  exact ⟨fun h => by simpa [sput] using h0 (by simpa [did] using h), fun h => by simpa [sput] using h1 (by simpa [did] using h), fun h => by simpa [sput] using h2 (by simpa [did] using h), fun _ => by simp [sput], fun h => by simpa [sput] using h4 (by simpa [did] using h), fun h => by simpa [sput] using h5 (by simpa [did] using h), fun h => by simpa [sput] using h6 (by simpa [did] using h), fun h => by simpa [sput] using h7 (by simpa [did] using h), fun h => by simpa [sput] using h8 (by simpa [did] using h), fun h => by simpa [sput] using h9 (by simpa [did] using h), fun h => by simpa [sput] using h10 (by simpa [did] using h), fun h => by simpa [sput] using h11 (by simpa [did] using h), fun h => by simpa [sput] using h12 (by simpa [did] using h), fun h => by simpa [sput] using h13 (by simpa [did] using h), fun h => by have := x0 (by simpa [did] using h); simp [did, this], fun h => by simpa [sput] using x1 (by simpa [did] using h), hT⟩
                · unfold OpSteps
                  simp [go_sem, evS, f13]
                  exact ⟨fun h => by simpa [sput] using h0 (by simpa [did] using h), fun h => by simpa [sput] using h1 (by simpa [did] using h), fun h => by simpa [sput] using h2 (by simpa [did] using h), fun h => by simpa [sput] using h3 (by simpa [did] using h), fun _ => by simp [sput], fun h => by simpa [sput] using h5 (by simpa [did] using h), fun h => by simpa [sput] using h6 (by simpa [did] using h), fun h => by simpa [sput] using h7 (by simpa [did] using h), fun h => by simpa [sput] using h8 (by simpa [did] using h), fun h => by simpa [sput] using h9 (by simpa [did] using h), fun h => by simpa [sput] using h10 (by simpa [did] using h), fun h => by simpa [sput] using h11 (by simpa [did] using h), fun h => by simpa [sput] using h12 (by simpa [did] using h), fun h => by simpa [sput] using h13 (by simpa [did] using h), fun h => by have := x0 (by simpa [did] using h); simp [did, this], fun h => by simpa [sput] using x1 (by simpa [did] using h), hT⟩
                · have g2 := h2 (by simp [hdep])
                  have g3 := h3 (by simp [hdep])
                  have g4 := h4 (by simp [hdep])
                  unfold OpSteps
                  simp [go_sem, evS, g2, g3, g4]
                  refine (HAy.out W hT).mono ?_
                  rintro e W' ⟨rfl, hb⟩
                  refine ⟨_, rfl, ?_⟩
                  exact ⟨fun h => by simpa [sput] using h0 (by simpa [did] using h), fun h => by simpa [sput] using h1 (by simpa [did] using h), fun h => by simpa [sput] using h2 (by simpa [did] using h), fun h => by simpa [sput] using h3 (by simpa [did] using h), fun h => by simpa [sput] using h4 (by simpa [did] using h), fun _ => by simp [sput], fun h => by simpa [sput] using h6 (by simpa [did] using h), fun h => by simpa [sput] using h7 (by simpa [did] using h), fun h => by simpa [sput] using h8 (by simpa [did] using h), fun h => by simpa [sput] using h9 (by simpa [did] using h), fun h => by simpa [sput] using h10 (by simpa [did] using h), fun h => by simpa [sput] using h11 (by simpa [did] using h), fun h => by simpa [sput] using h12 (by simpa [did] using h), fun h => by simpa [sput] using h13 (by simpa [did] using h), fun h => by have := x0 (by simpa [did] using h); simp [did, this], fun h => by simpa [sput] using x1 (by simpa [did] using h), below_nx hT hb⟩
                · have g1 := h1 (by simp [hdep])
                  have g5 := h5 (by simp [hdep])
                  unfold OpSteps
                  simp [go_sem, evS, g1, g5]
                  refine (rtimes_any a y W).mono ?_
                  rintro e W' ⟨p, rfl, hp, hb⟩
                  refine ⟨_, rfl, ?_⟩
                  exact ⟨fun h => by simpa [sput] using h0 (by simpa [did] using h), fun h => by simpa [sput] using h1 (by simpa [did] using h), fun h => by simpa [sput] using h2 (by simpa [did] using h), fun h => by simpa [sput] using h3 (by simpa [did] using h), fun h => by simpa [sput] using h4 (by simpa [did] using h), fun h => by simpa [sput] using h5 (by simpa [did] using h), fun _ => ⟨p, by simp [sput], hp⟩, fun h => by simpa [sput] using h7 (by simpa [did] using h), fun h => by simpa [sput] using h8 (by simpa [did] using h), fun h => by simpa [sput] using h9 (by simpa [did] using h), fun h => by simpa [sput] using h10 (by simpa [did] using h), fun h => by simpa [sput] using h11 (by simpa [did] using h), fun h => by simpa [sput] using h12 (by simpa [did] using h), fun h => by simpa [sput] using h13 (by simpa [did] using h), fun h => by have := x0 (by simpa [did] using h); simp [did, this], fun h => by simpa [sput] using x1 (by simpa [did] using h), below_nx hT hb⟩
                · unfold OpSteps
                  obtain ⟨p0, p1, p2⟩ := cells3v (HBx.out.below hT HBx.out.lt)
                  simp [go_sem, evS, f6, p0, p1, p2]
                  exact ⟨fun h => by simpa [sput] using h0 (by simpa [did] using h), fun h => by simpa [sput] using h1 (by simpa [did] using h), fun h => by simpa [sput] using h2 (by simpa [did] using h), fun h => by simpa [sput] using h3 (by simpa [did] using h), fun h => by simpa [sput] using h4 (by simpa [did] using h), fun h => by simpa [sput] using h5 (by simpa [did] using h), fun h => by simpa [sput] using h6 (by simpa [did] using h), fun _ => by simp [sput], fun h => by simpa [sput] using h8 (by simpa [did] using h), fun h => by simpa [sput] using h9 (by simpa [did] using h), fun h => by simpa [sput] using h10 (by simpa [did] using h), fun h => by simpa [sput] using h11 (by simpa [did] using h), fun h => by simpa [sput] using h12 (by simpa [did] using h), fun h => by simpa [sput] using h13 (by simpa [did] using h), fun h => by have := x0 (by simpa [did] using h); simp [did, this], fun h => by simpa [sput] using x1 (by simpa [did] using h), hT⟩
                · unfold OpSteps
                  simp [go_sem, evS, f12]
                  exact ⟨fun h => by simpa [sput] using h0 (by simpa [did] using h), fun h => by simpa [sput] using h1 (by simpa [did] using h), fun h => by simpa [sput] using h2 (by simpa [did] using h), fun h => by simpa [sput] using h3 (by simpa [did] using h), fun h => by simpa [sput] using h4 (by simpa [did] using h), fun h => by simpa [sput] using h5 (by simpa [did] using h), fun h => by simpa [sput] using h6 (by simpa [did] using h), fun h => by simpa [sput] using h7 (by simpa [did] using h), fun _ => by simp [sput], fun h => by simpa [sput] using h9 (by simpa [did] using h), fun h => by simpa [sput] using h10 (by simpa [did] using h), fun h => by simpa [sput] using h11 (by simpa [did] using h), fun h => by simpa [sput] using h12 (by simpa [did] using h), fun h => by simpa [sput] using h13 (by simpa [did] using h), fun h => by have := x0 (by simpa [did] using h); simp [did, this], fun h => by simpa [sput] using x1 (by simpa [did] using h), hT⟩
                · unfold OpSteps
                  simp [go_sem, evS, f15]
                  exact ⟨fun h => by simpa [sput] using h0 (by simpa [did] using h), fun h => by simpa [sput] using h1 (by simpa [did] using h), fun h => by simpa [sput] using h2 (by simpa [did] using h), fun h => by simpa [sput] using h3 (by simpa [did] using h), fun h => by simpa [sput] using h4 (by simpa [did] using h), fun h => by simpa [sput] using h5 (by simpa [did] using h), fun h => by simpa [sput] using h6 (by simpa [did] using h), fun h => by simpa [sput] using h7 (by simpa [did] using h), fun h => by simpa [sput] using h8 (by simpa [did] using h), fun _ => by simp [sput], fun h => by simpa [sput] using h10 (by simpa [did] using h), fun h => by simpa [sput] using h11 (by simpa [did] using h), fun h => by simpa [sput] using h12 (by simpa [did] using h), fun h => by simpa [sput] using h13 (by simpa [did] using h), fun h => by have := x0 (by simpa [did] using h); simp [did, this], fun h => by simpa [sput] using x1 (by simpa [did] using h), hT⟩
                · have g7 := h7 (by simp [hdep])
                  have g8 := h8 (by simp [hdep])
                  have g9 := h9 (by simp [hdep])
                  unfold OpSteps
                  simp [go_sem, evS, g7, g8, g9]
                  refine (HAx.out W hT).mono ?_
                  rintro e W' ⟨rfl, hb⟩
                  refine ⟨_, rfl, ?_⟩
                  exact ⟨fun h => by simpa [sput] using h0 (by simpa [did] using h), fun h => by simpa [sput] using h1 (by simpa [did] using h), fun h => by simpa [sput] using h2 (by simpa [did] using h), fun h => by simpa [sput] using h3 (by simpa [did] using h), fun h => by simpa [sput] using h4 (by simpa [did] using h), fun h => by simpa [sput] using h5 (by simpa [did] using h), fun h => by simpa [sput] using h6 (by simpa [did] using h), fun h => by simpa [sput] using h7 (by simpa [did] using h), fun h => by simpa [sput] using h8 (by simpa [did] using h), fun h => by simpa [sput] using h9 (by simpa [did] using h), fun _ => by simp [sput], fun h => by simpa [sput] using h11 (by simpa [did] using h), fun h => by simpa [sput] using h12 (by simpa [did] using h), fun h => by simpa [sput] using h13 (by simpa [did] using h), fun h => by have := x0 (by simpa [did] using h); simp [did, this], fun h => by simpa [sput] using x1 (by simpa [did] using h), below_nx hT hb⟩
                · have g6 := h6 (by simp [hdep])
                  have g10 := h10 (by simp [hdep])
                  unfold OpSteps
                  obtain ⟨p, gp, hp⟩ := g6
                  simp [go_sem, evS, g10, gp]
                  refine (rtimes_any p x W).mono ?_
                  rintro e W' ⟨r, rfl, hr, hb⟩
                  refine ⟨_, rfl, ?_⟩
                  exact ⟨fun h => by simpa [sput] using h0 (by simpa [did] using h), fun h => by simpa [sput] using h1 (by simpa [did] using h), fun h => by simpa [sput] using h2 (by simpa [did] using h), fun h => by simpa [sput] using h3 (by simpa [did] using h), fun h => by simpa [sput] using h4 (by simpa [did] using h), fun h => by simpa [sput] using h5 (by simpa [did] using h), fun h => by simpa [sput] using h6 (by simpa [did] using h), fun h => by simpa [sput] using h7 (by simpa [did] using h), fun h => by simpa [sput] using h8 (by simpa [did] using h), fun h => by simpa [sput] using h9 (by simpa [did] using h), fun h => by simpa [sput] using h10 (by simpa [did] using h), fun _ => ⟨r, by simp [sput], p, hp, hr⟩, fun h => by simpa [sput] using h12 (by simpa [did] using h), fun h => by simpa [sput] using h13 (by simpa [did] using h), fun h => by have := x0 (by simpa [did] using h); simp [did, this], fun h => by simpa [sput] using x1 (by simpa [did] using h), below_nx hT hb⟩
                · have g0 := h0 (by simp [hdep])
                  have g11 := h11 (by simp [hdep])
                  unfold OpSteps
                  obtain ⟨p, gp, hp⟩ := g11
                  simp [go_sem, evS, g0, gp]
                  refine (rplus_any s0 p W).mono ?_
                  rintro e W' ⟨r, rfl, hr, hb⟩
                  refine ⟨_, rfl, ?_⟩
                  exact ⟨fun h => by simpa [sput] using h0 (by simpa [did] using h), fun h => by simpa [sput] using h1 (by simpa [did] using h), fun h => by simpa [sput] using h2 (by simpa [did] using h), fun h => by simpa [sput] using h3 (by simpa [did] using h), fun h => by simpa [sput] using h4 (by simpa [did] using h), fun h => by simpa [sput] using h5 (by simpa [did] using h), fun h => by simpa [sput] using h6 (by simpa [did] using h), fun h => by simpa [sput] using h7 (by simpa [did] using h), fun h => by simpa [sput] using h8 (by simpa [did] using h), fun h => by simpa [sput] using h9 (by simpa [did] using h), fun h => by simpa [sput] using h10 (by simpa [did] using h), fun h => by simpa [sput] using h11 (by simpa [did] using h), fun _ => ⟨r, by simp [sput], HQ.out p r hp hr⟩, fun h => by simpa [sput] using h13 (by simpa [did] using h), fun h => by have := x0 (by simpa [did] using h); simp [did, this], fun h => by simpa [sput] using x1 (by simpa [did] using h), below_nx hT hb⟩
                · have g12 := h12 (by simp [hdep])
                  unfold OpSteps
                  obtain ⟨r, gp, hr⟩ := g12
                  simp [go_sem, evS, gp]
                  exact ⟨fun h => by simpa [sput] using h0 (by simpa [did] using h), fun h => by simpa [sput] using h1 (by simpa [did] using h), fun h => by simpa [sput] using h2 (by simpa [did] using h), fun h => by simpa [sput] using h3 (by simpa [did] using h), fun h => by simpa [sput] using h4 (by simpa [did] using h), fun h => by simpa [sput] using h5 (by simpa [did] using h), fun h => by simpa [sput] using h6 (by simpa [did] using h), fun h => by simpa [sput] using h7 (by simpa [did] using h), fun h => by simpa [sput] using h8 (by simpa [did] using h), fun h => by simpa [sput] using h9 (by simpa [did] using h), fun h => by simpa [sput] using h10 (by simpa [did] using h), fun h => by simpa [sput] using h11 (by simpa [did] using h), fun h => by simpa [sput] using h12 (by simpa [did] using h), fun _ => ⟨r, by simp [sput], hr⟩, fun _ => by first | simp [did, hdep] | (have := x0 (by simp [hdep]); simp [did, this]), fun h => by simp [did] at h, hT⟩
              intro d s W hJ hd
              obtain ⟨h0, h1, h2, h3, h4, h5, h6, h7, h8, h9, h10, h11, h12, h13, x0, x1, hT⟩ := hJ
              obtain ⟨r, hs, hr⟩ := h13 (hd 13 (by decide))
              have HR := Lib.hid hr
              have HK4 := Lib.hid (HKp.out W hT)
              clear h0 h1 h2 h3 h4 h5 h6 h7 h8 h9 h10 h11 h12 h13 x0 x1 hT hd hr
              simp [setAll, hs]
              clear hs
              generalize s 45 = s45
              generalize s 46 = s46
              generalize s 47 = s47
              generalize s 48 = s48
              generalize s 49 = s49
              generalize s 50 = s50
              generalize s 51 = s51
              generalize s 52 = s52
              generalize s 53 = s53
              generalize s 54 = s54
              generalize s 55 = s55
              generalize s 56 = s56
              generalize s 57 = s57
              go_wp2_with fail
              go_roundw
              case rel => exact ⟨k1 + 1, r, by omega, rfl, by go_num, HQc.out r HR.out, HK4.out⟩
              case measure => simp [intOf]; omega
            · obtain rfl : k1 = K := by omega
              have hkc : ¬ (k1 : Int) < (k1 : Int) := by omega
              have hs := HSl.out i1 j1 hlt hlt2
              obtain ⟨P, hP⟩ : ∃ P, i1 * C + j1 = P := ⟨_, rfl⟩
              have hrel2 : GeT a b TX k1 TY TZ C i1 j1 s0 := ⟨sb, by rw [HV0.out]; exact HSb.out, HC.out⟩
              have HSt0 := HS.out.1.step (r := s0) (fun a ha b hb e => tab_injg hb hlt2 e) hs.1 hrel2
              have hsO : ∀ W, Own W go T1 → Calls Try.prog 30 #[.agg #[.int .i64 (R : Int), .int .i64 (C : Int), .slice (some ⟨go, 0, none⟩) N N], .int .i64 (i1 : Int), .int .i64 (j1 : Int), .float .f64 s0] W fun e w' => e = .returned (.tuple #[]) ∧ Own w' go (T1.set (i1 * C + j1) s0) ∧ Only go W w' := fun W h =>
                rset_own (R : Int) (C : Int) go N N T1 i1 j1 (i1 * C + j1) s0 W h HS.out.1.1 hs.1 (by have := HNb.out; omega) hs.2.2 hs.2.1
              rw [hP] at HSt0
              simp only [hP] at hsO
              have HSt := Lib.hid HSt0
              have HbW := Lib.hid (below_nx HBb.out HBl3.out)
              have HStO := Lib.hid (hsO wr (HS.out.2.1.nxt HbW.out))
              have HTb := Lib.hid (HTb0.out.nxt HBl3.out)
              have HBz := Lib.hid (show Below z w wr from HS.out.2.2.2.2.2.2.2.trans (HbW.out.mono (by have := HS.out.2.2.1.lt; omega)))
              obtain ⟨q0, q1, q2⟩ := cells3v HTb.out
              clear hs hP hrel2 HSt0 hsO
              go_wp2_with fail
              clear d0 d1 d2 q0 q1 q2
              refine (HStO.out).mono ?_
              rintro e w9 ⟨rfl, ho, hOn⟩
              have HO2 := Lib.hid ho
              have HX2 := Lib.hid (hOn.blk (by have := HNe.out; omega) HBx.out)
              have HY2 := Lib.hid (hOn.blk (by have := HNe.out; omega) (HS.out.2.2.2.1.nxt HbW.out))
              have HZ2 := Lib.hid (hOn.blk (by have := HNe.out; omega) (HS.out.2.2.2.2.1.nxt HbW.out))
              have HE2 := Lib.hid (hOn.blk (by have := HNe.out; omega) (HS.out.2.2.2.2.2.1.nxt HbW.out))
              have HTb2 := Lib.hid (hOn.blk (by have := HNe.out; omega) HTb.out)
              have HB2 := Lib.hid (show Below z w w9 from hOn.below HBz.out (by have := HBx.out.lt; omega) (by have := HNe.out; omega))
              clear ho hOn
              go_wp2_with fail
              go_roundw
              case rel => exact ⟨j1 + 1, T1.set P s0, by omega, by go_num, Lib.hid ⟨HSt.out, HO2.out, HX2.out, HY2.out, HZ2.out, HE2.out, HTb2.out, HB2.out⟩⟩
              case measure => simp [intOf]; omega
        · obtain rfl : j1 = C := by omega
          have hbb : ¬ (j1 : Int) < (j1 : Int) := by omega
          go_wp2_with fail
          go_roundw
          case rel => exact ⟨i1 + 1, T1, by omega, by go_num, Lib.hid ⟨HS.out.1.next, HS.out.2⟩⟩
          case measure => simp [intOf]; omega
    · obtain rfl : R = i1 := by omega
      have hbb : ¬ (R : Int) < (R : Int) := by omega
      obtain ⟨t0, t1, t2⟩ := cells3v HS.out.2.2.2.2.2.2.1
      obtain ⟨z0, z1', z2'⟩ := cells3v HS.out.2.2.2.2.2.1
      obtain ⟨y0, y1, y2⟩ := frozen3v HS.out.2.2.2.2.2.1
      have HSt := Lib.hid (HS.out.2.2.2.2.2.1.store3v (.int .i64 (R : Int)) (.int .i64 (C : Int)) (.slice (some ⟨go, 0, none⟩) N N))
      have HBe := Lib.hid (below3g HS.out.2.2.2.2.2.2.2 (show z ≤ z3 by have := HNe.out; omega) (.int .i64 (R : Int)) (.int .i64 (C : Int)) (.slice (some ⟨go, 0, none⟩) N N))
      have HKe := Lib.hid (own3g HS.out.2.1 (show go ≠ z3 by have := HNe.out; omega) (.int .i64 (R : Int)) (.int .i64 (C : Int)) (.slice (some ⟨go, 0, none⟩) N N))
      go_wp2_with fail
      obtain ⟨j0, j1, j2⟩ := cells3v HSt.out
      exact bodyPost_ret (v := .agg #[.int .i64 (R : Int), .int .i64 (C : Int), .slice (some ⟨go, 0, none⟩) N N]) (by simp [results, Try.results14, go_sem, j0, j1, j2]) rfl ⟨go, N, T1, rfl, HKe.out, HS.out.1.1, HS.out.1.done, by have := Hz.out; have := HNe.out; omega, by rw [Hz.out]; exact HBe.out⟩
end Go.Proofs.Ytbeefnekblepfaa
