/-
The document's Mul, Abs. Conditions: the lists have fewer than 2^20 numbers.
-/
import Derived.Test.YtodoibioedelgaaGv
set_option linter.unusedVariables false
set_option linter.unusedSimpArgs false
set_option linter.unnecessarySimpa false
namespace Go.Proofs.Ytodoibioedelgaa
open Go.RowKit
attribute [local go_sem ↓] Go.wp_at_zero Go.wp_at_succ

def RMulS (a : Nat) (T : List Nat) (C : Nat) (X : List Nat) (q k s r : Nat) : Prop := ∃ p, MulR a (T.getD (q * C + k) 0) (X.getD k 0) p ∧ Comes .add s p r
def RAbsS (T : List Nat) (C : Nat) (X : List Nat) (q k s r : Nat) : Prop := ∃ p, AbsR (T.getD (q * C + k) 0) (X.getD k 0) p ∧ Comes .add s p r
def RMulQ (a b : Nat) (T : List Nat) (C : Nat) (X Y : List Nat) (q r : Nat) : Prop := ∃ s, BegR b (Y.getD q 0) s ∧ Chn (RMulS a T C X q) s C r
def RAbsQ (T : List Nat) (C : Nat) (X Y : List Nat) (q r : Nat) : Prop := Chn (RAbsS T C X q) (Y.getD q 0) C r

set_option maxRecDepth 100000 in
set_option maxHeartbeats 2000000 in
theorem rgmul_any (a b : Nat) (R C gT N cT : Nat) (T : List Nat) (A : Option Addr) (nx c : Nat) (X : List Nat) (B : Option Addr) (ny d : Nat) (Y : List Nat) (w : World) (hT : Row w (some ⟨gT, 0, none⟩) (f64s T)) (hTl : T.length = N) (hN : N < 1048576) (hRC : R * C = N) (hRb : R < 1048576) (hCb : C < 1048576) (hWT : Wds T) (hA : Row w A (f64s X)) (hXl : X.length = nx) (hWX : Wds X) (hB : Row w B (f64s Y)) (hYl : Y.length = ny) (hnx : nx < 1048576) (hny : ny < 1048576) (hxC : C ≤ nx) (hyR : R ≤ ny) :
    Calls Try.prog 19 #[.float .f64 a, .agg #[.int .i64 R, .int .i64 C, .slice (some ⟨gT, 0, none⟩) N cT], .slice A nx c, .float .f64 b, .slice B ny d] w (RetL (RMulQ a b T C X Y) R w) := by
  obtain ⟨i0, hi, hz0, hz1, hz2⟩ := fi0
  have HTr := Lib.hid hT
  have HA := Lib.hid hA
  have HB := Lib.hid hB
  have HXl := Lib.hid hXl
  have HYl := Lib.hid hYl
  have HWs := Lib.hid (And.intro hWT hWX)
  have HAt0 := Lib.hid (fun W (q k : Nat) (hq : q < R) (hk : k < C) (h : Row W (some ⟨gT, 0, none⟩) (f64s T)) => rat7_any R C gT N cT T q k W h hTl hN (by rw [← hRC]; exact tab_lt hq hk))
  clear hT hTl hN hRC hA hXl hB hYl hWT hWX
  go_enter Try.func19, Try.ntmps19
  have HZ := Lib.hid (Blk.new w 40 #[.int .i64 R, .int .i64 C, .slice (some ⟨gT, 0, none⟩) N cT])
  have hb0 : Below w.heap.size w (w.alloc (.cells #[.int .i64 R, .int .i64 C, .slice (some ⟨gT, 0, none⟩) N cT] 40)) := (Below.refl w.heap.size w).alloc (Nat.le_refl _) (.cells #[.int .i64 R, .int .i64 C, .slice (some ⟨gT, 0, none⟩) N cT] 40)
  have HTr1 := Lib.hid (HTr.out.below hb0)
  clear HTr
  have HA1 := Lib.hid (HA.out.below hb0)
  clear HA
  have HB1 := Lib.hid (HB.out.below hb0)
  clear HB
  have HB0 := Lib.hid hb0
  clear hb0
  go_wp2_with fail
  generalize hw1 : w.alloc (.cells #[.int .i64 R, .int .i64 C, .slice (some ⟨gT, 0, none⟩) N cT] 40) = w1 at *
  have Hz := Lib.hid (show w.heap.size < w1.heap.size from HZ.out.lt)
  generalize hzt : w.heap.size = zt at *
  have Hzt := Lib.hid hzt
  clear hw1 hzt
  go_loopw [11, 12] (fun out i wr => ∃ (q : Nat) (L : List Nat), q ≤ R ∧ i = .int .i64 q ∧ Hid (L.length = q ∧ ∀ j, j < q → (RMulQ a b T C X Y) j (L.getD j 0)) ∧ wr.ownsRow w1.heap.size 22 1 out q (f64s L) ∧ Below w1.heap.size w1 wr) (fun _ i _ => R - (intOf i).toNat)
  case atStart => exact ⟨0, [], Nat.zero_le _, rfl, Lib.hid ⟨rfl, fun j h => by omega⟩, World.ownsRow_nil _ _ _ _, Below.refl _ _⟩
  case round =>
    obtain ⟨q, L, hq, rfl, HL, hown, hbl⟩ := hrel
    have HBl := Lib.hid hbl
    have HOw0 := Lib.hid hown
    clear hown hbl
    obtain ⟨t0, t1, t2⟩ := cells3v (HZ.out.below HBl.out HZ.out.lt)
    by_cases hlt : q < R
    · have hqc : (q : Int) < (R : Int) := by omega
      have hq0 : (0 : Int) ≤ (q : Int) := by omega
      have hq1 : q + 1 ≤ 1048576 := by omega
      have hql : q < Y.length := by rw [HYl.out]; omega
      obtain ⟨b2, y2, rfl, _, hcy0⟩ := HB1.out.at_ (f64s_get Y q hql)
      have hcy := cell_below hcy0 HBl.out
      rw [← getD_of_lt hql] at hcy
      have bq : q < ny := by omega
      obtain ⟨y, hy⟩ : ∃ y, Y.getD q 0 = y := ⟨_, rfl⟩
      have HYv := Lib.hid hy
      rw [hy] at hcy
      clear hcy0 hql hy
      go_wp2_with fail
      refine (rgbegin_any b y _).mono ?_
      rintro e wt ⟨sb, rfl, hsb, hbt⟩
      have HSb := Lib.hid hsb
      have HOw1 := Lib.hid (ownsRow_below HOw0.out hbt)
      have HBl1 := Lib.hid (below_nx HBl.out hbt)
      clear hsb hbt hcy t0 t1 t2
      generalize wr = wo at *
      go_wp2_with fail
      go_loopw [13, 14] (fun sv jv wr => ∃ (k s0 : Nat), k ≤ C ∧ sv = .float .f64 s0 ∧ jv = .int .i64 k ∧ Hid (Chn (RMulS a T C X q) sb k s0) ∧ wr.ownsRow w1.heap.size 22 1 u11 q (f64s L) ∧ Below w1.heap.size w1 wr) (fun _ j _ => C - (intOf j).toNat)
      case atStart => exact ⟨0, sb, Nat.zero_le _, rfl, rfl, Lib.hid rfl, HOw1.out, HBl1.out⟩
      case round =>
        obtain ⟨k, s0, hk, rfl, rfl, HC, hown, hbl⟩ := hrel
        have HBl3 := Lib.hid hbl
        have HOw3 := Lib.hid hown
        clear hown hbl
        have HZ0 := HZ
        replace HZ := Lib.hid (HZ.out.below HBl3.out HZ.out.lt)
        obtain ⟨t0, t1, t2⟩ := cells3v HZ.out
        by_cases hkC : k < C
        · have hkc : (k : Int) < (C : Int) := by omega
          have hk1 : k + 1 ≤ 1048576 := by omega
          have hkl : k < X.length := by rw [HXl.out]; omega
          obtain ⟨bx, ox, rfl, _, hcx0⟩ := HA1.out.at_ (f64s_get X k hkl)
          have HXc0 := cell_below hcx0 HBl3.out
          rw [← getD_of_lt hkl] at HXc0
          have HAt1 := Lib.hid (fun W (hb : Below wr.heap.size wr W) => HAt0.out W q k hlt hkC ((HTr1.out.below HBl3.out).below hb))
          have HXw0 := getD_wds HWs.out.2 k
          have HNw0 := getD_wds HWs.out.1 (q * C + k)
          have HQ0 := Lib.hid (fun p r (h1 : MulR a (T.getD (q * C + k) 0) (X.getD k 0) p) (h2 : Comes .add s0 p r) => show (RMulS a T C X q) k s0 r from ⟨p, h1, h2⟩)
          have HQc := Lib.hid (fun r (h : (RMulS a T C X q) k s0 r) => Lib.hid (show Chn (RMulS a T C X q) sb (k + 1) r from ⟨s0, HC.out, h⟩))
          obtain ⟨x, hx⟩ : ∃ x, X.getD k 0 = x := ⟨_, rfl⟩
          obtain ⟨n, hn⟩ : ∃ n, T.getD (q * C + k) 0 = n := ⟨_, rfl⟩
          obtain ⟨QQ, hQQ⟩ : ∃ QQ, (RMulS a T C X q) k s0 = QQ := ⟨_, rfl⟩
          rw [hx] at HXc0 HXw0 HQ0
          rw [hn] at HAt1 HNw0 HQ0
          rw [hQQ] at HQ0 HQc
          have HXc := Lib.hid HXc0
          have HXw := Lib.hid HXw0
          have HNw := Lib.hid HNw0
          have HAt := HAt1
          have HQ := HQ0
          have bk1 : k < nx := by omega
          clear hx hn hQQ hcx0 hkl HXc0 HXw0 HNw0
          go_wp2_with fail
          refine wp_region_inv [33, 34, 35, 36, 37, 38, 39, 40, 41, 42, 43, 44, 45, 13] (fun d s W => (d 0 = true → s 33 = .float .f64 s0) ∧ (d 1 = true → s 34 = .float .f64 a) ∧ (d 2 = true → s 35 = .slice (some ⟨bx, ox, none⟩) nx c) ∧ (d 3 = true → s 36 = .int .i64 (k : Int)) ∧ (d 4 = true → s 37 = .pointer (some ⟨bx, ox + k, none⟩)) ∧ (d 5 = true → s 38 = .float .f64 x) ∧ (d 6 = true → ∃ p, s 39 = .float .f64 p ∧ Comes .mul a x p) ∧ (d 7 = true → s 40 = .agg #[.int .i64 (R : Int), .int .i64 (C : Int), .slice (some ⟨gT, 0, none⟩) N cT]) ∧ (d 8 = true → s 41 = .int .i64 (q : Int)) ∧ (d 9 = true → s 42 = .int .i64 (k : Int)) ∧ (d 10 = true → s 43 = .float .f64 n) ∧ (d 11 = true → ∃ r, s 44 = .float .f64 r ∧ MulR a n x r) ∧ (d 12 = true → ∃ r, s 45 = .float .f64 r ∧ QQ r) ∧ (d 13 = true → ∃ r, s 13 = .float .f64 r ∧ QQ r) ∧ (d 13 = true → d 0 = true) ∧ (d 13 = false → s 13 = .float .f64 s0) ∧ Below wr.heap.size wr W)
            rfl (by kernel_rfl) ?_ ?_ ?_
          · exact ⟨by simp, by simp, by simp, by simp, by simp, by simp, by simp, by simp, by simp, by simp, by simp, by simp, by simp, by simp, by simp, fun _ => by simp, (Below.refl _ _).drew⟩
          · refine ⟨?_, ?_, ?_, ?_, ?_, ?_, ?_, ?_, ?_, ?_, ?_, ?_, ?_, ?_, trivial⟩
            all_goals
              intro d s W hJ hfr hd hdep
              simp only [List.mem_cons, forall_eq_or_imp, List.not_mem_nil, false_implies, implies_true, and_true, Region.binds] at hdep
              have f0 := hfr 0 (by decide)
              have f2 := hfr 2 (by decide)
              have f6 := hfr 6 (by decide)
              have f12 := hfr 12 (by decide)
              have f14 := hfr 14 (by decide)
              simp at f0 f2 f6 f12 f14 hdep
              obtain ⟨h0, h1, h2, h3, h4, h5, h6, h7, h8, h9, h10, h11, h12, h13, x0, x1, hT⟩ := hJ
            · unfold OpSteps
              have e13 : d 13 = false := by
                cases h : d 13
                · rfl
                · have := x0 h; simp [hd] at this
              have f13 := x1 e13
              simp [go_sem, evS, f13]
              exact ⟨fun _ => by simp [sput], fun h => by simpa [sput] using h1 (by simpa [did] using h), fun h => by simpa [sput] using h2 (by simpa [did] using h), fun h => by simpa [sput] using h3 (by simpa [did] using h), fun h => by simpa [sput] using h4 (by simpa [did] using h), fun h => by simpa [sput] using h5 (by simpa [did] using h), fun h => by simpa [sput] using h6 (by simpa [did] using h), fun h => by simpa [sput] using h7 (by simpa [did] using h), fun h => by simpa [sput] using h8 (by simpa [did] using h), fun h => by simpa [sput] using h9 (by simpa [did] using h), fun h => by simpa [sput] using h10 (by simpa [did] using h), fun h => by simpa [sput] using h11 (by simpa [did] using h), fun h => by simpa [sput] using h12 (by simpa [did] using h), fun h => by simpa [sput] using h13 (by simpa [did] using h), fun h => by have := x0 (by simpa [did] using h); simp [did, this], fun h => by simpa [sput] using x1 (by simpa [did] using h), hT⟩
            · unfold OpSteps
              simp [go_sem, evS, f0]
              exact ⟨fun h => by simpa [sput] using h0 (by simpa [did] using h), fun _ => by simp [sput], fun h => by simpa [sput] using h2 (by simpa [did] using h), fun h => by simpa [sput] using h3 (by simpa [did] using h), fun h => by simpa [sput] using h4 (by simpa [did] using h), fun h => by simpa [sput] using h5 (by simpa [did] using h), fun h => by simpa [sput] using h6 (by simpa [did] using h), fun h => by simpa [sput] using h7 (by simpa [did] using h), fun h => by simpa [sput] using h8 (by simpa [did] using h), fun h => by simpa [sput] using h9 (by simpa [did] using h), fun h => by simpa [sput] using h10 (by simpa [did] using h), fun h => by simpa [sput] using h11 (by simpa [did] using h), fun h => by simpa [sput] using h12 (by simpa [did] using h), fun h => by simpa [sput] using h13 (by simpa [did] using h), fun h => by have := x0 (by simpa [did] using h); simp [did, this], fun h => by simpa [sput] using x1 (by simpa [did] using h), hT⟩
            · unfold OpSteps
              simp [go_sem, evS, f2]
              exact ⟨fun h => by simpa [sput] using h0 (by simpa [did] using h), fun h => by simpa [sput] using h1 (by simpa [did] using h), fun _ => by simp [sput], fun h => by simpa [sput] using h3 (by simpa [did] using h), fun h => by simpa [sput] using h4 (by simpa [did] using h), fun h => by simpa [sput] using h5 (by simpa [did] using h), fun h => by simpa [sput] using h6 (by simpa [did] using h), fun h => by simpa [sput] using h7 (by simpa [did] using h), fun h => by simpa [sput] using h8 (by simpa [did] using h), fun h => by simpa [sput] using h9 (by simpa [did] using h), fun h => by simpa [sput] using h10 (by simpa [did] using h), fun h => by simpa [sput] using h11 (by simpa [did] using h), fun h => by simpa [sput] using h12 (by simpa [did] using h), fun h => by simpa [sput] using h13 (by simpa [did] using h), fun h => by have := x0 (by simpa [did] using h); simp [did, this], fun h => by simpa [sput] using x1 (by simpa [did] using h), hT⟩
            · unfold OpSteps
              simp [go_sem, evS, f14]
              exact ⟨fun h => by simpa [sput] using h0 (by simpa [did] using h), fun h => by simpa [sput] using h1 (by simpa [did] using h), fun h => by simpa [sput] using h2 (by simpa [did] using h), fun _ => by simp [sput], fun h => by simpa [sput] using h4 (by simpa [did] using h), fun h => by simpa [sput] using h5 (by simpa [did] using h), fun h => by simpa [sput] using h6 (by simpa [did] using h), fun h => by simpa [sput] using h7 (by simpa [did] using h), fun h => by simpa [sput] using h8 (by simpa [did] using h), fun h => by simpa [sput] using h9 (by simpa [did] using h), fun h => by simpa [sput] using h10 (by simpa [did] using h), fun h => by simpa [sput] using h11 (by simpa [did] using h), fun h => by simpa [sput] using h12 (by simpa [did] using h), fun h => by simpa [sput] using h13 (by simpa [did] using h), fun h => by have := x0 (by simpa [did] using h); simp [did, this], fun h => by simpa [sput] using x1 (by simpa [did] using h), hT⟩
            · have g2 := h2 (by simp [hdep])
              have g3 := h3 (by simp [hdep])
              unfold OpSteps
              simp [go_sem, evS, g2, g3, bk1]
              exact ⟨fun h => by simpa [sput] using h0 (by simpa [did] using h), fun h => by simpa [sput] using h1 (by simpa [did] using h), fun h => by simpa [sput] using h2 (by simpa [did] using h), fun h => by simpa [sput] using h3 (by simpa [did] using h), fun _ => by simp [sput], fun h => by simpa [sput] using h5 (by simpa [did] using h), fun h => by simpa [sput] using h6 (by simpa [did] using h), fun h => by simpa [sput] using h7 (by simpa [did] using h), fun h => by simpa [sput] using h8 (by simpa [did] using h), fun h => by simpa [sput] using h9 (by simpa [did] using h), fun h => by simpa [sput] using h10 (by simpa [did] using h), fun h => by simpa [sput] using h11 (by simpa [did] using h), fun h => by simpa [sput] using h12 (by simpa [did] using h), fun h => by simpa [sput] using h13 (by simpa [did] using h), fun h => by have := x0 (by simpa [did] using h); simp [did, this], fun h => by simpa [sput] using x1 (by simpa [did] using h), hT⟩
            · have g4 := h4 (by simp [hdep])
              unfold OpSteps
              have pc := cell_below HXc.out hT
              simp [go_sem, evS, g4, pc]
              exact ⟨fun h => by simpa [sput] using h0 (by simpa [did] using h), fun h => by simpa [sput] using h1 (by simpa [did] using h), fun h => by simpa [sput] using h2 (by simpa [did] using h), fun h => by simpa [sput] using h3 (by simpa [did] using h), fun h => by simpa [sput] using h4 (by simpa [did] using h), fun _ => by simp [sput], fun h => by simpa [sput] using h6 (by simpa [did] using h), fun h => by simpa [sput] using h7 (by simpa [did] using h), fun h => by simpa [sput] using h8 (by simpa [did] using h), fun h => by simpa [sput] using h9 (by simpa [did] using h), fun h => by simpa [sput] using h10 (by simpa [did] using h), fun h => by simpa [sput] using h11 (by simpa [did] using h), fun h => by simpa [sput] using h12 (by simpa [did] using h), fun h => by simpa [sput] using h13 (by simpa [did] using h), fun h => by have := x0 (by simpa [did] using h); simp [did, this], fun h => by simpa [sput] using x1 (by simpa [did] using h), hT⟩
            · have g1 := h1 (by simp [hdep])
              have g5 := h5 (by simp [hdep])
              unfold OpSteps
              simp [go_sem, evS, g1, g5]
              refine (rtimes_any a x W).mono ?_
              rintro e W' ⟨p, rfl, hp, hb⟩
              refine ⟨_, rfl, ?_⟩
              exact ⟨fun h => by simpa [sput] using h0 (by simpa [did] using h), fun h => by simpa [sput] using h1 (by simpa [did] using h), fun h => by simpa [sput] using h2 (by simpa [did] using h), fun h => by simpa [sput] using h3 (by simpa [did] using h), fun h => by simpa [sput] using h4 (by simpa [did] using h), fun h => by simpa [sput] using h5 (by simpa [did] using h), fun _ => ⟨p, by simp [sput], hp⟩, fun h => by simpa [sput] using h7 (by simpa [did] using h), fun h => by simpa [sput] using h8 (by simpa [did] using h), fun h => by simpa [sput] using h9 (by simpa [did] using h), fun h => by simpa [sput] using h10 (by simpa [did] using h), fun h => by simpa [sput] using h11 (by simpa [did] using h), fun h => by simpa [sput] using h12 (by simpa [did] using h), fun h => by simpa [sput] using h13 (by simpa [did] using h), fun h => by have := x0 (by simpa [did] using h); simp [did, this], fun h => by simpa [sput] using x1 (by simpa [did] using h), below_nx hT hb⟩
            · unfold OpSteps
              obtain ⟨p0, p1, p2⟩ := cells3v (HZ.out.below hT HZ.out.lt)
              simp [go_sem, evS, f6, p0, p1, p2]
              exact ⟨fun h => by simpa [sput] using h0 (by simpa [did] using h), fun h => by simpa [sput] using h1 (by simpa [did] using h), fun h => by simpa [sput] using h2 (by simpa [did] using h), fun h => by simpa [sput] using h3 (by simpa [did] using h), fun h => by simpa [sput] using h4 (by simpa [did] using h), fun h => by simpa [sput] using h5 (by simpa [did] using h), fun h => by simpa [sput] using h6 (by simpa [did] using h), fun _ => by simp [sput], fun h => by simpa [sput] using h8 (by simpa [did] using h), fun h => by simpa [sput] using h9 (by simpa [did] using h), fun h => by simpa [sput] using h10 (by simpa [did] using h), fun h => by simpa [sput] using h11 (by simpa [did] using h), fun h => by simpa [sput] using h12 (by simpa [did] using h), fun h => by simpa [sput] using h13 (by simpa [did] using h), fun h => by have := x0 (by simpa [did] using h); simp [did, this], fun h => by simpa [sput] using x1 (by simpa [did] using h), hT⟩
            · unfold OpSteps
              simp [go_sem, evS, f12]
              exact ⟨fun h => by simpa [sput] using h0 (by simpa [did] using h), fun h => by simpa [sput] using h1 (by simpa [did] using h), fun h => by simpa [sput] using h2 (by simpa [did] using h), fun h => by simpa [sput] using h3 (by simpa [did] using h), fun h => by simpa [sput] using h4 (by simpa [did] using h), fun h => by simpa [sput] using h5 (by simpa [did] using h), fun h => by simpa [sput] using h6 (by simpa [did] using h), fun h => by simpa [sput] using h7 (by simpa [did] using h), fun _ => by simp [sput], fun h => by simpa [sput] using h9 (by simpa [did] using h), fun h => by simpa [sput] using h10 (by simpa [did] using h), fun h => by simpa [sput] using h11 (by simpa [did] using h), fun h => by simpa [sput] using h12 (by simpa [did] using h), fun h => by simpa [sput] using h13 (by simpa [did] using h), fun h => by have := x0 (by simpa [did] using h); simp [did, this], fun h => by simpa [sput] using x1 (by simpa [did] using h), hT⟩
            · unfold OpSteps
              simp [go_sem, evS, f14]
              exact ⟨fun h => by simpa [sput] using h0 (by simpa [did] using h), fun h => by simpa [sput] using h1 (by simpa [did] using h), fun h => by simpa [sput] using h2 (by simpa [did] using h), fun h => by simpa [sput] using h3 (by simpa [did] using h), fun h => by simpa [sput] using h4 (by simpa [did] using h), fun h => by simpa [sput] using h5 (by simpa [did] using h), fun h => by simpa [sput] using h6 (by simpa [did] using h), fun h => by simpa [sput] using h7 (by simpa [did] using h), fun h => by simpa [sput] using h8 (by simpa [did] using h), fun _ => by simp [sput], fun h => by simpa [sput] using h10 (by simpa [did] using h), fun h => by simpa [sput] using h11 (by simpa [did] using h), fun h => by simpa [sput] using h12 (by simpa [did] using h), fun h => by simpa [sput] using h13 (by simpa [did] using h), fun h => by have := x0 (by simpa [did] using h); simp [did, this], fun h => by simpa [sput] using x1 (by simpa [did] using h), hT⟩
            · have g7 := h7 (by simp [hdep])
              have g8 := h8 (by simp [hdep])
              have g9 := h9 (by simp [hdep])
              unfold OpSteps
              simp [go_sem, evS, g7, g8, g9]
              refine (HAt.out W hT).mono ?_
              rintro e W' ⟨rfl, hb⟩
              refine ⟨_, rfl, ?_⟩
              exact ⟨fun h => by simpa [sput] using h0 (by simpa [did] using h), fun h => by simpa [sput] using h1 (by simpa [did] using h), fun h => by simpa [sput] using h2 (by simpa [did] using h), fun h => by simpa [sput] using h3 (by simpa [did] using h), fun h => by simpa [sput] using h4 (by simpa [did] using h), fun h => by simpa [sput] using h5 (by simpa [did] using h), fun h => by simpa [sput] using h6 (by simpa [did] using h), fun h => by simpa [sput] using h7 (by simpa [did] using h), fun h => by simpa [sput] using h8 (by simpa [did] using h), fun h => by simpa [sput] using h9 (by simpa [did] using h), fun _ => by simp [sput], fun h => by simpa [sput] using h11 (by simpa [did] using h), fun h => by simpa [sput] using h12 (by simpa [did] using h), fun h => by simpa [sput] using h13 (by simpa [did] using h), fun h => by have := x0 (by simpa [did] using h); simp [did, this], fun h => by simpa [sput] using x1 (by simpa [did] using h), below_nx hT hb⟩
            · have g6 := h6 (by simp [hdep])
              have g10 := h10 (by simp [hdep])
              unfold OpSteps
              obtain ⟨p, gp, hp⟩ := g6
              simp [go_sem, evS, g10, gp]
              refine (rtimes_any p n W).mono ?_
              rintro e W' ⟨r, rfl, hr, hb⟩
              refine ⟨_, rfl, ?_⟩
              exact ⟨fun h => by simpa [sput] using h0 (by simpa [did] using h), fun h => by simpa [sput] using h1 (by simpa [did] using h), fun h => by simpa [sput] using h2 (by simpa [did] using h), fun h => by simpa [sput] using h3 (by simpa [did] using h), fun h => by simpa [sput] using h4 (by simpa [did] using h), fun h => by simpa [sput] using h5 (by simpa [did] using h), fun h => by simpa [sput] using h6 (by simpa [did] using h), fun h => by simpa [sput] using h7 (by simpa [did] using h), fun h => by simpa [sput] using h8 (by simpa [did] using h), fun h => by simpa [sput] using h9 (by simpa [did] using h), fun h => by simpa [sput] using h10 (by simpa [did] using h), fun _ => ⟨r, by simp [sput], p, hp, hr⟩, fun h => by simpa [sput] using h12 (by simpa [did] using h), fun h => by simpa [sput] using h13 (by simpa [did] using h), fun h => by have := x0 (by simpa [did] using h); simp [did, this], fun h => by simpa [sput] using x1 (by simpa [did] using h), below_nx hT hb⟩
            · have g0 := h0 (by simp [hdep])
              have g11 := h11 (by simp [hdep])
              unfold OpSteps
              obtain ⟨p, gp, hp⟩ := g11
              simp [go_sem, evS, g0, gp]
              refine (rplus_any s0 p W).mono ?_
              rintro e W' ⟨r, rfl, hr, hb⟩
              refine ⟨_, rfl, ?_⟩
              exact ⟨fun h => by simpa [sput] using h0 (by simpa [did] using h), fun h => by simpa [sput] using h1 (by simpa [did] using h), fun h => by simpa [sput] using h2 (by simpa [did] using h), fun h => by simpa [sput] using h3 (by simpa [did] using h), fun h => by simpa [sput] using h4 (by simpa [did] using h), fun h => by simpa [sput] using h5 (by simpa [did] using h), fun h => by simpa [sput] using h6 (by simpa [did] using h), fun h => by simpa [sput] using h7 (by simpa [did] using h), fun h => by simpa [sput] using h8 (by simpa [did] using h), fun h => by simpa [sput] using h9 (by simpa [did] using h), fun h => by simpa [sput] using h10 (by simpa [did] using h), fun h => by simpa [sput] using h11 (by simpa [did] using h), fun _ => ⟨r, by simp [sput], HQ.out p r hp hr⟩, fun h => by simpa [sput] using h13 (by simpa [did] using h), fun h => by have := x0 (by simpa [did] using h); simp [did, this], fun h => by simpa [sput] using x1 (by simpa [did] using h), below_nx hT hb⟩
            · have g12 := h12 (by simp [hdep])
              unfold OpSteps
              obtain ⟨r, gp, hr⟩ := g12
              simp [go_sem, evS, gp]
              exact ⟨fun h => by simpa [sput] using h0 (by simpa [did] using h), fun h => by simpa [sput] using h1 (by simpa [did] using h), fun h => by simpa [sput] using h2 (by simpa [did] using h), fun h => by simpa [sput] using h3 (by simpa [did] using h), fun h => by simpa [sput] using h4 (by simpa [did] using h), fun h => by simpa [sput] using h5 (by simpa [did] using h), fun h => by simpa [sput] using h6 (by simpa [did] using h), fun h => by simpa [sput] using h7 (by simpa [did] using h), fun h => by simpa [sput] using h8 (by simpa [did] using h), fun h => by simpa [sput] using h9 (by simpa [did] using h), fun h => by simpa [sput] using h10 (by simpa [did] using h), fun h => by simpa [sput] using h11 (by simpa [did] using h), fun h => by simpa [sput] using h12 (by simpa [did] using h), fun _ => ⟨r, by simp [sput], hr⟩, fun _ => by first | simp [did, hdep] | (have := x0 (by simp [hdep]); simp [did, this]), fun h => by simp [did] at h, hT⟩
          intro d s W hJ hd
          obtain ⟨h0, h1, h2, h3, h4, h5, h6, h7, h8, h9, h10, h11, h12, h13, x0, x1, hT⟩ := hJ
          obtain ⟨r, hs, hr⟩ := h13 (hd 13 (by decide))
          have HR := Lib.hid hr
          have HOw4 := Lib.hid (ownsRow_below HOw3.out hT)
          have HBl4 := Lib.hid (below_nx HBl3.out hT)
          clear h0 h1 h2 h3 h4 h5 h6 h7 h8 h9 h10 h11 h12 h13 x0 x1 hT hd hr
          simp [setAll, hs]
          clear hs
          generalize s 33 = s33
          generalize s 34 = s34
          generalize s 35 = s35
          generalize s 36 = s36
          generalize s 37 = s37
          generalize s 38 = s38
          generalize s 39 = s39
          generalize s 40 = s40
          generalize s 41 = s41
          generalize s 42 = s42
          generalize s 43 = s43
          generalize s 44 = s44
          generalize s 45 = s45
          go_wp2_with fail
          go_roundw
          case rel => exact ⟨k + 1, r, by omega, rfl, by go_num, HQc.out r HR.out, HOw4.out, HBl4.out⟩
          case measure => simp [intOf]; omega
        · obtain rfl : k = C := by omega
          have hkc : ¬ (k : Int) < (k : Int) := by omega
          have HOwW := HOw3
          have HBlW := HBl3
          have HR := Lib.hid (show (RMulQ a b T k X Y) q s0 from ⟨sb, by rw [HYv.out]; exact HSb.out, HC.out⟩)
          have HN := Lib.hid (Blk.new wr 22 #[.float .f64 s0])
          have HOw2 := Lib.hid (HOwW.out.alloc (.cells #[.float .f64 s0] 22))
          go_wp2_with (at_builtin; refine wpList_append_own _ rfl _ _ 23 rfl w1.heap.size 22 i0 (.float .f64 0) 1 8 Try.underlying23 hi hz0 hz1 hz2 rfl (by decide) _ q (f64s L) rfl HOw2.out ⟨wr.heap.size, 0, none⟩ 1 1 [.float .f64 s0] rfl rfl ?c1 (by intro u hu; simp at hu; subst hu; rfl) ?c3 ?c4 ?c5 ?_)
          case c3 => unfold maxLen; omega
          case c4 => omega
          case c5 => (try simp); have := HBlW.out.size; omega
          intro v' w' hown' hgrow _
          have HOw3 := Lib.hid (show w'.ownsRow w1.heap.size 22 1 v' (q + 1) (f64s (L ++ [s0])) by rw [f64s_snoc]; exact hown')
          have HBl3 := Lib.hid ((HBlW.out.alloc HBlW.out.size (.cells #[.float .f64 s0] 22)).grown hgrow (by simp; have := HBlW.out.size; omega) (fun k hk => by have := (HOw2.out.lt k hk).1; omega))
          clear hown' hgrow
          go_wp2_with fail
          go_roundw
          case rel => exact ⟨q + 1, L ++ [s0], by omega, by go_num, Lib.hid ⟨by simp [HL.out.1], AxQ_all (R := (RMulQ a b T k X Y)) HL.out.1 HL.out.2 HR.out⟩, HOw3.out, HBl3.out⟩
          case measure => simp [intOf]; omega
    · obtain rfl : q = R := by omega
      have hqc : ¬ (q : Int) < (q : Int) := by omega
      obtain ⟨B9, d9, rfl, hrow⟩ := own_row HOw0.out HL.out.1.symm
      have HRow := Lib.hid hrow
      clear hrow
      go_wp2_with fail
      go_ret
      exact ⟨B9, d9, L, rfl, HL.out.1, HL.out.2, HRow.out, below_nx (by rw [Hzt.out]; exact HB0.out) HBl.out⟩

set_option maxRecDepth 100000 in
set_option maxHeartbeats 2000000 in
theorem rgabs_any (R C gT N cT : Nat) (T : List Nat) (A : Option Addr) (nx c : Nat) (X : List Nat) (B : Option Addr) (ny d : Nat) (Y : List Nat) (w : World) (hT : Row w (some ⟨gT, 0, none⟩) (f64s T)) (hTl : T.length = N) (hN : N < 1048576) (hRC : R * C = N) (hRb : R < 1048576) (hCb : C < 1048576) (hWT : Wds T) (hA : Row w A (f64s X)) (hXl : X.length = nx) (hWX : Wds X) (hB : Row w B (f64s Y)) (hYl : Y.length = ny) (hnx : nx < 1048576) (hny : ny < 1048576) (hxC : C ≤ nx) (hyR : R ≤ ny) :
    Calls Try.prog 21 #[.agg #[.int .i64 R, .int .i64 C, .slice (some ⟨gT, 0, none⟩) N cT], .slice A nx c, .slice B ny d] w (RetL (RAbsQ T C X Y) R w) := by
  obtain ⟨i0, hi, hz0, hz1, hz2⟩ := fi0
  have HTr := Lib.hid hT
  have HA := Lib.hid hA
  have HB := Lib.hid hB
  have HXl := Lib.hid hXl
  have HYl := Lib.hid hYl
  have HWs := Lib.hid (And.intro hWT hWX)
  have HAt0 := Lib.hid (fun W (q k : Nat) (hq : q < R) (hk : k < C) (h : Row W (some ⟨gT, 0, none⟩) (f64s T)) => rat7_any R C gT N cT T q k W h hTl hN (by rw [← hRC]; exact tab_lt hq hk))
  clear hT hTl hN hRC hA hXl hB hYl hWT hWX
  go_enter Try.func21, Try.ntmps21
  have HZ := Lib.hid (Blk.new w 40 #[.int .i64 R, .int .i64 C, .slice (some ⟨gT, 0, none⟩) N cT])
  have hb0 : Below w.heap.size w (w.alloc (.cells #[.int .i64 R, .int .i64 C, .slice (some ⟨gT, 0, none⟩) N cT] 40)) := (Below.refl w.heap.size w).alloc (Nat.le_refl _) (.cells #[.int .i64 R, .int .i64 C, .slice (some ⟨gT, 0, none⟩) N cT] 40)
  have HTr1 := Lib.hid (HTr.out.below hb0)
  clear HTr
  have HA1 := Lib.hid (HA.out.below hb0)
  clear HA
  have HB1 := Lib.hid (HB.out.below hb0)
  clear HB
  have HB0 := Lib.hid hb0
  clear hb0
  go_wp2_with fail
  generalize hw1 : w.alloc (.cells #[.int .i64 R, .int .i64 C, .slice (some ⟨gT, 0, none⟩) N cT] 40) = w1 at *
  have Hz := Lib.hid (show w.heap.size < w1.heap.size from HZ.out.lt)
  generalize hzt : w.heap.size = zt at *
  have Hzt := Lib.hid hzt
  clear hw1 hzt
  go_loopw [7, 8] (fun out i wr => ∃ (q : Nat) (L : List Nat), q ≤ R ∧ i = .int .i64 q ∧ Hid (L.length = q ∧ ∀ j, j < q → (RAbsQ T C X Y) j (L.getD j 0)) ∧ wr.ownsRow w1.heap.size 22 1 out q (f64s L) ∧ Below w1.heap.size w1 wr) (fun _ i _ => R - (intOf i).toNat)
  case atStart => exact ⟨0, [], Nat.zero_le _, rfl, Lib.hid ⟨rfl, fun j h => by omega⟩, World.ownsRow_nil _ _ _ _, Below.refl _ _⟩
  case round =>
    obtain ⟨q, L, hq, rfl, HL, hown, hbl⟩ := hrel
    have HBl := Lib.hid hbl
    have HOw0 := Lib.hid hown
    clear hown hbl
    obtain ⟨t0, t1, t2⟩ := cells3v (HZ.out.below HBl.out HZ.out.lt)
    by_cases hlt : q < R
    · have hqc : (q : Int) < (R : Int) := by omega
      have hq0 : (0 : Int) ≤ (q : Int) := by omega
      have hq1 : q + 1 ≤ 1048576 := by omega
      have hql : q < Y.length := by rw [HYl.out]; omega
      obtain ⟨b2, y2, rfl, _, hcy0⟩ := HB1.out.at_ (f64s_get Y q hql)
      have hcy := cell_below hcy0 HBl.out
      rw [← getD_of_lt hql] at hcy
      have bq : q < ny := by omega
      obtain ⟨y, hy⟩ : ∃ y, Y.getD q 0 = y := ⟨_, rfl⟩
      have HYv := Lib.hid hy
      rw [hy] at hcy
      clear hcy0 hql hy
      have HOw1 := HOw0
      have HBl1 := HBl
      generalize wr = wo at *
      go_wp2_with fail
      clear hcy t0 t1 t2
      go_loopw [9, 10] (fun sv jv wr => ∃ (k s0 : Nat), k ≤ C ∧ sv = .float .f64 s0 ∧ jv = .int .i64 k ∧ Hid (Chn (RAbsS T C X q) y k s0) ∧ wr.ownsRow w1.heap.size 22 1 u7 q (f64s L) ∧ Below w1.heap.size w1 wr) (fun _ j _ => C - (intOf j).toNat)
      case atStart => exact ⟨0, y, Nat.zero_le _, rfl, rfl, Lib.hid rfl, HOw1.out, HBl1.out⟩
      case round =>
        obtain ⟨k, s0, hk, rfl, rfl, HC, hown, hbl⟩ := hrel
        have HBl3 := Lib.hid hbl
        have HOw3 := Lib.hid hown
        clear hown hbl
        have HZ0 := HZ
        replace HZ := Lib.hid (HZ.out.below HBl3.out HZ.out.lt)
        obtain ⟨t0, t1, t2⟩ := cells3v HZ.out
        by_cases hkC : k < C
        · have hkc : (k : Int) < (C : Int) := by omega
          have hk1 : k + 1 ≤ 1048576 := by omega
          have hkl : k < X.length := by rw [HXl.out]; omega
          obtain ⟨bx, ox, rfl, _, hcx0⟩ := HA1.out.at_ (f64s_get X k hkl)
          have HXc0 := cell_below hcx0 HBl3.out
          rw [← getD_of_lt hkl] at HXc0
          have HAt1 := Lib.hid (fun W (hb : Below wr.heap.size wr W) => HAt0.out W q k hlt hkC ((HTr1.out.below HBl3.out).below hb))
          have HXw0 := getD_wds HWs.out.2 k
          have HNw0 := getD_wds HWs.out.1 (q * C + k)
          have HQ0 := Lib.hid (fun p r (h1 : AbsR (T.getD (q * C + k) 0) (X.getD k 0) p) (h2 : Comes .add s0 p r) => show (RAbsS T C X q) k s0 r from ⟨p, h1, h2⟩)
          have HQc := Lib.hid (fun r (h : (RAbsS T C X q) k s0 r) => Lib.hid (show Chn (RAbsS T C X q) y (k + 1) r from ⟨s0, HC.out, h⟩))
          obtain ⟨x, hx⟩ : ∃ x, X.getD k 0 = x := ⟨_, rfl⟩
          obtain ⟨n, hn⟩ : ∃ n, T.getD (q * C + k) 0 = n := ⟨_, rfl⟩
          obtain ⟨QQ, hQQ⟩ : ∃ QQ, (RAbsS T C X q) k s0 = QQ := ⟨_, rfl⟩
          rw [hx] at HXc0 HXw0 HQ0
          rw [hn] at HAt1 HNw0 HQ0
          rw [hQQ] at HQ0 HQc
          have HXc := Lib.hid HXc0
          have HXw := Lib.hid HXw0
          have HNw := Lib.hid HNw0
          have HAt := HAt1
          have HQ := HQ0
          have bk1 : k < nx := by omega
          clear hx hn hQQ hcx0 hkl HXc0 HXw0 HNw0
          go_wp2_with fail
          refine wp_region_inv [27, 28, 29, 30, 31, 32, 33, 34, 35, 36, 37, 38, 39, 9] (fun d s W => (d 0 = true → s 27 = .float .f64 s0) ∧ (d 1 = true → s 28 = .agg #[.int .i64 (R : Int), .int .i64 (C : Int), .slice (some ⟨gT, 0, none⟩) N cT]) ∧ (d 2 = true → s 29 = .int .i64 (q : Int)) ∧ (d 3 = true → s 30 = .int .i64 (k : Int)) ∧ (d 4 = true → s 31 = .float .f64 n) ∧ (d 5 = true → s 32 = .float .f64 (absW n)) ∧ (d 6 = true → s 33 = .slice (some ⟨bx, ox, none⟩) nx c) ∧ (d 7 = true → s 34 = .int .i64 (k : Int)) ∧ (d 8 = true → s 35 = .pointer (some ⟨bx, ox + k, none⟩)) ∧ (d 9 = true → s 36 = .float .f64 x) ∧ (d 10 = true → s 37 = .float .f64 (absW x)) ∧ (d 11 = true → ∃ r, s 38 = .float .f64 r ∧ AbsR n x r) ∧ (d 12 = true → ∃ r, s 39 = .float .f64 r ∧ QQ r) ∧ (d 13 = true → ∃ r, s 9 = .float .f64 r ∧ QQ r) ∧ (d 13 = true → d 0 = true) ∧ (d 13 = false → s 9 = .float .f64 s0) ∧ Below wr.heap.size wr W)
            rfl (by kernel_rfl) ?_ ?_ ?_
          · exact ⟨by simp, by simp, by simp, by simp, by simp, by simp, by simp, by simp, by simp, by simp, by simp, by simp, by simp, by simp, by simp, fun _ => by simp, (Below.refl _ _).drew⟩
          · refine ⟨?_, ?_, ?_, ?_, ?_, ?_, ?_, ?_, ?_, ?_, ?_, ?_, ?_, ?_, trivial⟩
            all_goals
              intro d s W hJ hfr hd hdep
              simp only [List.mem_cons, forall_eq_or_imp, List.not_mem_nil, false_implies, implies_true, and_true, Region.binds] at hdep
              have f1 := hfr 1 (by decide)
              have f3 := hfr 3 (by decide)
              have f8 := hfr 8 (by decide)
              have f10 := hfr 10 (by decide)
              simp at f1 f3 f8 f10 hdep
              obtain ⟨h0, h1, h2, h3, h4, h5, h6, h7, h8, h9, h10, h11, h12, h13, x0, x1, hT⟩ := hJ
            · unfold OpSteps
              have e9 : d 13 = false := by
                cases h : d 13
                · rfl
                · have := x0 h; simp [hd] at this
              have f9 := x1 e9
              simp [go_sem, evS, f9]
              exact ⟨fun _ => by simp [sput], fun h => by simpa [sput] using h1 (by simpa [did] using h), fun h => by simpa [sput] using h2 (by simpa [did] using h), fun h => by simpa [sput] using h3 (by simpa [did] using h), fun h => by simpa [sput] using h4 (by simpa [did] using h), fun h => by simpa [sput] using h5 (by simpa [did] using h), fun h => by simpa [sput] using h6 (by simpa [did] using h), fun h => by simpa [sput] using h7 (by simpa [did] using h), fun h => by simpa [sput] using h8 (by simpa [did] using h), fun h => by simpa [sput] using h9 (by simpa [did] using h), fun h => by simpa [sput] using h10 (by simpa [did] using h), fun h => by simpa [sput] using h11 (by simpa [did] using h), fun h => by simpa [sput] using h12 (by simpa [did] using h), fun h => by simpa [sput] using h13 (by simpa [did] using h), fun h => by have := x0 (by simpa [did] using h); simp [did, this], fun h => by simpa [sput] using x1 (by simpa [did] using h), hT⟩
            · unfold OpSteps
              obtain ⟨p0, p1, p2⟩ := cells3v (HZ.out.below hT HZ.out.lt)
              simp [go_sem, evS, f3, p0, p1, p2]
              exact ⟨fun h => by simpa [sput] using h0 (by simpa [did] using h), fun _ => by simp [sput], fun h => by simpa [sput] using h2 (by simpa [did] using h), fun h => by simpa [sput] using h3 (by simpa [did] using h), fun h => by simpa [sput] using h4 (by simpa [did] using h), fun h => by simpa [sput] using h5 (by simpa [did] using h), fun h => by simpa [sput] using h6 (by simpa [did] using h), fun h => by simpa [sput] using h7 (by simpa [did] using h), fun h => by simpa [sput] using h8 (by simpa [did] using h), fun h => by simpa [sput] using h9 (by simpa [did] using h), fun h => by simpa [sput] using h10 (by simpa [did] using h), fun h => by simpa [sput] using h11 (by simpa [did] using h), fun h => by simpa [sput] using h12 (by simpa [did] using h), fun h => by simpa [sput] using h13 (by simpa [did] using h), fun h => by have := x0 (by simpa [did] using h); simp [did, this], fun h => by simpa [sput] using x1 (by simpa [did] using h), hT⟩
            · unfold OpSteps
              simp [go_sem, evS, f8]
              exact ⟨fun h => by simpa [sput] using h0 (by simpa [did] using h), fun h => by simpa [sput] using h1 (by simpa [did] using h), fun _ => by simp [sput], fun h => by simpa [sput] using h3 (by simpa [did] using h), fun h => by simpa [sput] using h4 (by simpa [did] using h), fun h => by simpa [sput] using h5 (by simpa [did] using h), fun h => by simpa [sput] using h6 (by simpa [did] using h), fun h => by simpa [sput] using h7 (by simpa [did] using h), fun h => by simpa [sput] using h8 (by simpa [did] using h), fun h => by simpa [sput] using h9 (by simpa [did] using h), fun h => by simpa [sput] using h10 (by simpa [did] using h), fun h => by simpa [sput] using h11 (by simpa [did] using h), fun h => by simpa [sput] using h12 (by simpa [did] using h), fun h => by simpa [sput] using h13 (by simpa [did] using h), fun h => by have := x0 (by simpa [did] using h); simp [did, this], fun h => by simpa [sput] using x1 (by simpa [did] using h), hT⟩
            · unfold OpSteps
              simp [go_sem, evS, f10]
              exact ⟨fun h => by simpa [sput] using h0 (by simpa [did] using h), fun h => by simpa [sput] using h1 (by simpa [did] using h), fun h => by simpa [sput] using h2 (by simpa [did] using h), fun _ => by simp [sput], fun h => by simpa [sput] using h4 (by simpa [did] using h), fun h => by simpa [sput] using h5 (by simpa [did] using h), fun h => by simpa [sput] using h6 (by simpa [did] using h), fun h => by simpa [sput] using h7 (by simpa [did] using h), fun h => by simpa [sput] using h8 (by simpa [did] using h), fun h => by simpa [sput] using h9 (by simpa [did] using h), fun h => by simpa [sput] using h10 (by simpa [did] using h), fun h => by simpa [sput] using h11 (by simpa [did] using h), fun h => by simpa [sput] using h12 (by simpa [did] using h), fun h => by simpa [sput] using h13 (by simpa [did] using h), fun h => by have := x0 (by simpa [did] using h); simp [did, this], fun h => by simpa [sput] using x1 (by simpa [did] using h), hT⟩
            · have g1 := h1 (by simp [hdep])
              have g2 := h2 (by simp [hdep])
              have g3 := h3 (by simp [hdep])
              unfold OpSteps
              simp [go_sem, evS, g1, g2, g3]
              refine (HAt.out W hT).mono ?_
              rintro e W' ⟨rfl, hb⟩
              refine ⟨_, rfl, ?_⟩
              exact ⟨fun h => by simpa [sput] using h0 (by simpa [did] using h), fun h => by simpa [sput] using h1 (by simpa [did] using h), fun h => by simpa [sput] using h2 (by simpa [did] using h), fun h => by simpa [sput] using h3 (by simpa [did] using h), fun _ => by simp [sput], fun h => by simpa [sput] using h5 (by simpa [did] using h), fun h => by simpa [sput] using h6 (by simpa [did] using h), fun h => by simpa [sput] using h7 (by simpa [did] using h), fun h => by simpa [sput] using h8 (by simpa [did] using h), fun h => by simpa [sput] using h9 (by simpa [did] using h), fun h => by simpa [sput] using h10 (by simpa [did] using h), fun h => by simpa [sput] using h11 (by simpa [did] using h), fun h => by simpa [sput] using h12 (by simpa [did] using h), fun h => by simpa [sput] using h13 (by simpa [did] using h), fun h => by have := x0 (by simpa [did] using h); simp [did, this], fun h => by simpa [sput] using x1 (by simpa [did] using h), below_nx hT hb⟩
            · have g4 := h4 (by simp [hdep])
              unfold OpSteps
              simp [go_sem, evS, g4]
              refine (rabs_any n W HNw.out).mono ?_
              rintro e W' ⟨rfl, rfl⟩
              refine ⟨_, rfl, ?_⟩
              exact ⟨fun h => by simpa [sput] using h0 (by simpa [did] using h), fun h => by simpa [sput] using h1 (by simpa [did] using h), fun h => by simpa [sput] using h2 (by simpa [did] using h), fun h => by simpa [sput] using h3 (by simpa [did] using h), fun h => by simpa [sput] using h4 (by simpa [did] using h), fun _ => by simp [sput], fun h => by simpa [sput] using h6 (by simpa [did] using h), fun h => by simpa [sput] using h7 (by simpa [did] using h), fun h => by simpa [sput] using h8 (by simpa [did] using h), fun h => by simpa [sput] using h9 (by simpa [did] using h), fun h => by simpa [sput] using h10 (by simpa [did] using h), fun h => by simpa [sput] using h11 (by simpa [did] using h), fun h => by simpa [sput] using h12 (by simpa [did] using h), fun h => by simpa [sput] using h13 (by simpa [did] using h), fun h => by have := x0 (by simpa [did] using h); simp [did, this], fun h => by simpa [sput] using x1 (by simpa [did] using h), hT⟩
            · unfold OpSteps
              simp [go_sem, evS, f1]
              exact ⟨fun h => by simpa [sput] using h0 (by simpa [did] using h), fun h => by simpa [sput] using h1 (by simpa [did] using h), fun h => by simpa [sput] using h2 (by simpa [did] using h), fun h => by simpa [sput] using h3 (by simpa [did] using h), fun h => by simpa [sput] using h4 (by simpa [did] using h), fun h => by simpa [sput] using h5 (by simpa [did] using h), fun _ => by simp [sput], fun h => by simpa [sput] using h7 (by simpa [did] using h), fun h => by simpa [sput] using h8 (by simpa [did] using h), fun h => by simpa [sput] using h9 (by simpa [did] using h), fun h => by simpa [sput] using h10 (by simpa [did] using h), fun h => by simpa [sput] using h11 (by simpa [did] using h), fun h => by simpa [sput] using h12 (by simpa [did] using h), fun h => by simpa [sput] using h13 (by simpa [did] using h), fun h => by have := x0 (by simpa [did] using h); simp [did, this], fun h => by simpa [sput] using x1 (by simpa [did] using h), hT⟩
            · unfold OpSteps
              simp [go_sem, evS, f10]
              exact ⟨fun h => by simpa [sput] using h0 (by simpa [did] using h), fun h => by simpa [sput] using h1 (by simpa [did] using h), fun h => by simpa [sput] using h2 (by simpa [did] using h), fun h => by simpa [sput] using h3 (by simpa [did] using h), fun h => by simpa [sput] using h4 (by simpa [did] using h), fun h => by simpa [sput] using h5 (by simpa [did] using h), fun h => by simpa [sput] using h6 (by simpa [did] using h), fun _ => by simp [sput], fun h => by simpa [sput] using h8 (by simpa [did] using h), fun h => by simpa [sput] using h9 (by simpa [did] using h), fun h => by simpa [sput] using h10 (by simpa [did] using h), fun h => by simpa [sput] using h11 (by simpa [did] using h), fun h => by simpa [sput] using h12 (by simpa [did] using h), fun h => by simpa [sput] using h13 (by simpa [did] using h), fun h => by have := x0 (by simpa [did] using h); simp [did, this], fun h => by simpa [sput] using x1 (by simpa [did] using h), hT⟩
            · have g6 := h6 (by simp [hdep])
              have g7 := h7 (by simp [hdep])
              unfold OpSteps
              simp [go_sem, evS, g6, g7, bk1]
              exact ⟨fun h => by simpa [sput] using h0 (by simpa [did] using h), fun h => by simpa [sput] using h1 (by simpa [did] using h), fun h => by simpa [sput] using h2 (by simpa [did] using h), fun h => by simpa [sput] using h3 (by simpa [did] using h), fun h => by simpa [sput] using h4 (by simpa [did] using h), fun h => by simpa [sput] using h5 (by simpa [did] using h), fun h => by simpa [sput] using h6 (by simpa [did] using h), fun h => by simpa [sput] using h7 (by simpa [did] using h), fun _ => by simp [sput], fun h => by simpa [sput] using h9 (by simpa [did] using h), fun h => by simpa [sput] using h10 (by simpa [did] using h), fun h => by simpa [sput] using h11 (by simpa [did] using h), fun h => by simpa [sput] using h12 (by simpa [did] using h), fun h => by simpa [sput] using h13 (by simpa [did] using h), fun h => by have := x0 (by simpa [did] using h); simp [did, this], fun h => by simpa [sput] using x1 (by simpa [did] using h), hT⟩
            · have g8 := h8 (by simp [hdep])
              unfold OpSteps
              have pc := cell_below HXc.out hT
              simp [go_sem, evS, g8, pc]
              exact ⟨fun h => by simpa [sput] using h0 (by simpa [did] using h), fun h => by simpa [sput] using h1 (by simpa [did] using h), fun h => by simpa [sput] using h2 (by simpa [did] using h), fun h => by simpa [sput] using h3 (by simpa [did] using h), fun h => by simpa [sput] using h4 (by simpa [did] using h), fun h => by simpa [sput] using h5 (by simpa [did] using h), fun h => by simpa [sput] using h6 (by simpa [did] using h), fun h => by simpa [sput] using h7 (by simpa [did] using h), fun h => by simpa [sput] using h8 (by simpa [did] using h), fun _ => by simp [sput], fun h => by simpa [sput] using h10 (by simpa [did] using h), fun h => by simpa [sput] using h11 (by simpa [did] using h), fun h => by simpa [sput] using h12 (by simpa [did] using h), fun h => by simpa [sput] using h13 (by simpa [did] using h), fun h => by have := x0 (by simpa [did] using h); simp [did, this], fun h => by simpa [sput] using x1 (by simpa [did] using h), hT⟩
            · have g9 := h9 (by simp [hdep])
              unfold OpSteps
              simp [go_sem, evS, g9]
              refine (rabs_any x W HXw.out).mono ?_
              rintro e W' ⟨rfl, rfl⟩
              refine ⟨_, rfl, ?_⟩
              exact ⟨fun h => by simpa [sput] using h0 (by simpa [did] using h), fun h => by simpa [sput] using h1 (by simpa [did] using h), fun h => by simpa [sput] using h2 (by simpa [did] using h), fun h => by simpa [sput] using h3 (by simpa [did] using h), fun h => by simpa [sput] using h4 (by simpa [did] using h), fun h => by simpa [sput] using h5 (by simpa [did] using h), fun h => by simpa [sput] using h6 (by simpa [did] using h), fun h => by simpa [sput] using h7 (by simpa [did] using h), fun h => by simpa [sput] using h8 (by simpa [did] using h), fun h => by simpa [sput] using h9 (by simpa [did] using h), fun _ => by simp [sput], fun h => by simpa [sput] using h11 (by simpa [did] using h), fun h => by simpa [sput] using h12 (by simpa [did] using h), fun h => by simpa [sput] using h13 (by simpa [did] using h), fun h => by have := x0 (by simpa [did] using h); simp [did, this], fun h => by simpa [sput] using x1 (by simpa [did] using h), hT⟩
            · have g5 := h5 (by simp [hdep])
              have g10 := h10 (by simp [hdep])
              unfold OpSteps
              simp [go_sem, evS, g5, g10]
              refine (rtimes_any (absW n) (absW x) W).mono ?_
              rintro e W' ⟨r, rfl, hr, hb⟩
              refine ⟨_, rfl, ?_⟩
              exact ⟨fun h => by simpa [sput] using h0 (by simpa [did] using h), fun h => by simpa [sput] using h1 (by simpa [did] using h), fun h => by simpa [sput] using h2 (by simpa [did] using h), fun h => by simpa [sput] using h3 (by simpa [did] using h), fun h => by simpa [sput] using h4 (by simpa [did] using h), fun h => by simpa [sput] using h5 (by simpa [did] using h), fun h => by simpa [sput] using h6 (by simpa [did] using h), fun h => by simpa [sput] using h7 (by simpa [did] using h), fun h => by simpa [sput] using h8 (by simpa [did] using h), fun h => by simpa [sput] using h9 (by simpa [did] using h), fun h => by simpa [sput] using h10 (by simpa [did] using h), fun _ => ⟨r, by simp [sput], hr⟩, fun h => by simpa [sput] using h12 (by simpa [did] using h), fun h => by simpa [sput] using h13 (by simpa [did] using h), fun h => by have := x0 (by simpa [did] using h); simp [did, this], fun h => by simpa [sput] using x1 (by simpa [did] using h), below_nx hT hb⟩
            · have g0 := h0 (by simp [hdep])
              have g11 := h11 (by simp [hdep])
              unfold OpSteps
              obtain ⟨p, gp, hp⟩ := g11
              simp [go_sem, evS, g0, gp]
              refine (rplus_any s0 p W).mono ?_
              rintro e W' ⟨r, rfl, hr, hb⟩
              refine ⟨_, rfl, ?_⟩
              exact ⟨fun h => by simpa [sput] using h0 (by simpa [did] using h), fun h => by simpa [sput] using h1 (by simpa [did] using h), fun h => by simpa [sput] using h2 (by simpa [did] using h), fun h => by simpa [sput] using h3 (by simpa [did] using h), fun h => by simpa [sput] using h4 (by simpa [did] using h), fun h => by simpa [sput] using h5 (by simpa [did] using h), fun h => by simpa [sput] using h6 (by simpa [did] using h), fun h => by simpa [sput] using h7 (by simpa [did] using h), fun h => by simpa [sput] using h8 (by simpa [did] using h), fun h => by simpa [sput] using h9 (by simpa [did] using h), fun h => by simpa [sput] using h10 (by simpa [did] using h), fun h => by simpa [sput] using h11 (by simpa [did] using h), fun _ => ⟨r, by simp [sput], HQ.out p r hp hr⟩, fun h => by simpa [sput] using h13 (by simpa [did] using h), fun h => by have := x0 (by simpa [did] using h); simp [did, this], fun h => by simpa [sput] using x1 (by simpa [did] using h), below_nx hT hb⟩
            · have g12 := h12 (by simp [hdep])
              unfold OpSteps
              obtain ⟨r, gp, hr⟩ := g12
              simp [go_sem, evS, gp]
              exact ⟨fun h => by simpa [sput] using h0 (by simpa [did] using h), fun h => by simpa [sput] using h1 (by simpa [did] using h), fun h => by simpa [sput] using h2 (by simpa [did] using h), fun h => by simpa [sput] using h3 (by simpa [did] using h), fun h => by simpa [sput] using h4 (by simpa [did] using h), fun h => by simpa [sput] using h5 (by simpa [did] using h), fun h => by simpa [sput] using h6 (by simpa [did] using h), fun h => by simpa [sput] using h7 (by simpa [did] using h), fun h => by simpa [sput] using h8 (by simpa [did] using h), fun h => by simpa [sput] using h9 (by simpa [did] using h), fun h => by simpa [sput] using h10 (by simpa [did] using h), fun h => by simpa [sput] using h11 (by simpa [did] using h), fun h => by simpa [sput] using h12 (by simpa [did] using h), fun _ => ⟨r, by simp [sput], hr⟩, fun _ => by first | simp [did, hdep] | (have := x0 (by simp [hdep]); simp [did, this]), fun h => by simp [did] at h, hT⟩
          intro d s W hJ hd
          obtain ⟨h0, h1, h2, h3, h4, h5, h6, h7, h8, h9, h10, h11, h12, h13, x0, x1, hT⟩ := hJ
          obtain ⟨r, hs, hr⟩ := h13 (hd 13 (by decide))
          have HR := Lib.hid hr
          have HOw4 := Lib.hid (ownsRow_below HOw3.out hT)
          have HBl4 := Lib.hid (below_nx HBl3.out hT)
          clear h0 h1 h2 h3 h4 h5 h6 h7 h8 h9 h10 h11 h12 h13 x0 x1 hT hd hr
          simp [setAll, hs]
          clear hs
          generalize s 27 = s27
          generalize s 28 = s28
          generalize s 29 = s29
          generalize s 30 = s30
          generalize s 31 = s31
          generalize s 32 = s32
          generalize s 33 = s33
          generalize s 34 = s34
          generalize s 35 = s35
          generalize s 36 = s36
          generalize s 37 = s37
          generalize s 38 = s38
          generalize s 39 = s39
          go_wp2_with fail
          go_roundw
          case rel => exact ⟨k + 1, r, by omega, rfl, by go_num, HQc.out r HR.out, HOw4.out, HBl4.out⟩
          case measure => simp [intOf]; omega
        · obtain rfl : k = C := by omega
          have hkc : ¬ (k : Int) < (k : Int) := by omega
          have HOwW := HOw3
          have HBlW := HBl3
          have HR := Lib.hid (show (RAbsQ T k X Y) q s0 from (by have h1 := HC.out; rw [← HYv.out] at h1; exact h1))
          have HN := Lib.hid (Blk.new wr 22 #[.float .f64 s0])
          have HOw2 := Lib.hid (HOwW.out.alloc (.cells #[.float .f64 s0] 22))
          go_wp2_with (at_builtin; refine wpList_append_own _ rfl _ _ 23 rfl w1.heap.size 22 i0 (.float .f64 0) 1 8 Try.underlying23 hi hz0 hz1 hz2 rfl (by decide) _ q (f64s L) rfl HOw2.out ⟨wr.heap.size, 0, none⟩ 1 1 [.float .f64 s0] rfl rfl ?c1 (by intro u hu; simp at hu; subst hu; rfl) ?c3 ?c4 ?c5 ?_)
          case c3 => unfold maxLen; omega
          case c4 => omega
          case c5 => (try simp); have := HBlW.out.size; omega
          intro v' w' hown' hgrow _
          have HOw3 := Lib.hid (show w'.ownsRow w1.heap.size 22 1 v' (q + 1) (f64s (L ++ [s0])) by rw [f64s_snoc]; exact hown')
          have HBl3 := Lib.hid ((HBlW.out.alloc HBlW.out.size (.cells #[.float .f64 s0] 22)).grown hgrow (by simp; have := HBlW.out.size; omega) (fun k hk => by have := (HOw2.out.lt k hk).1; omega))
          clear hown' hgrow
          go_wp2_with fail
          go_roundw
          case rel => exact ⟨q + 1, L ++ [s0], by omega, by go_num, Lib.hid ⟨by simp [HL.out.1], AxQ_all (R := (RAbsQ T k X Y)) HL.out.1 HL.out.2 HR.out⟩, HOw3.out, HBl3.out⟩
          case measure => simp [intOf]; omega
    · obtain rfl : q = R := by omega
      have hqc : ¬ (q : Int) < (q : Int) := by omega
      obtain ⟨B9, d9, rfl, hrow⟩ := own_row HOw0.out HL.out.1.symm
      have HRow := Lib.hid hrow
      clear hrow
      go_wp2_with fail
      go_ret
      exact ⟨B9, d9, L, rfl, HL.out.1, HL.out.2, HRow.out, below_nx (by rw [Hzt.out]; exact HB0.out) HBl.out⟩
end Go.Proofs.Ytodoibioedelgaa
