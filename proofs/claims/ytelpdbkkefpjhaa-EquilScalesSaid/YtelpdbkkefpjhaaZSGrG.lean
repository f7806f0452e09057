/-
Ger: the document's Shift. Conditions: the lists have at most 2^20 numbers.
-/
import Derived.Test.YtelpdbkkefpjhaaWSp
import Derived.Test.YtelpdbkkefpjhaaZSGrD
import Derived.Test.YtelpdbkkefpjhaaZSNumG
set_option linter.unusedVariables false
set_option linter.unusedSimpArgs false
set_option linter.unnecessarySimpa false
namespace Go.Proofs.Ytelpdbkkefpjhaa
open Go.RowKit
attribute [local go_sem ↓] Go.wp_at_zero Go.wp_at_succ

def ShfT (zr zc : List Int) (T : List Nat) (C i j r : Nat) : Prop := r = Fl.scale (T.getD (i * C + j) 0) (shfE (zr.getD i 0) (zc.getD j 0))
theorem rheld_any (k : Int) (w : World) : Calls Try.prog 45 #[.int .i64 k] w fun e w' => e = .returned (.int .i64 (bndI k)) ∧ w = w' := by
  by_cases h1 : 1073741824 < k
  · have e1 : bndI k = 1073741824 := by unfold bndI; split <;> (try split) <;> omega
    rw [e1]
    have d1 : decide ((1073741824 : Int) < k) = true := decide_eq_true h1
    go_enter Try.func45, Try.ntmps45
    go_wp2_with fail
    go_ret
    exact ⟨rfl, rfl⟩
  have d1 : decide ((1073741824 : Int) < k) = false := decide_eq_false h1
  by_cases h2 : k < -1073741824
  · have e1 : bndI k = -1073741824 := by unfold bndI; split <;> (try split) <;> omega
    rw [e1]
    have d2 : decide (k < (-1073741824 : Int)) = true := decide_eq_true h2
    go_enter Try.func45, Try.ntmps45
    go_wp2_with fail
    go_ret
    exact ⟨rfl, rfl⟩
  · have e1 : bndI k = k := by unfold bndI; split <;> (try split) <;> omega
    rw [e1]
    have d2 : decide (k < (-1073741824 : Int)) = false := decide_eq_false h2
    go_enter Try.func45, Try.ntmps45
    go_wp2_with fail
    go_ret
    exact ⟨rfl, rfl⟩

set_option maxRecDepth 100000 in
set_option maxHeartbeats 2000000 in
theorem rshift08_any (A : Option Addr) (rc : Nat) (zr : List Int) (B : Option Addr) (cc : Nat) (zc : List Int) (R C gT N cT : Nat) (T : List Nat) (w : World) (hWT : Wds T) (hA : Row w A (i64s zr)) (hzr : zr.length = R) (hB : Row w B (i64s zc)) (hzc : zc.length = C) (hT : Row w (some ⟨gT, 0, none⟩) (f64s T)) (hTl : T.length = N) (hN : R * C = N) (hNb : N < 1048576) (hRb : R < 1048576) (hCb : C < 1048576) :
    Calls Try.prog 18 #[tbl R C gT N cT, .slice A R rc, .slice B C cc] w (RetT R C N (fun T' => ∀ i, i < R → ∀ j, j < C → (ShfT zr zc T C) i j (T'.getD (i * C + j) 0)) w) := by
  have HI := Lib.hid (fun i j (hi : i < R) (hj : j < C) => tab_facts hN (Nat.le_of_lt hNb) hi hj)
  have HSl := Lib.hid (fun i j (hi : i < R) (hj : j < C) => tab_facts (R := R) (C := C) (N := N) (i := i) (j := j) hN (Nat.le_of_lt hNb) hi hj)
  have HAt := Lib.hid (fun W (hB : Row W (some ⟨gT, 0, none⟩) (f64s T)) (x q : Nat) (hx : x < R) (hq : q < C) => rat8_any R C gT N cT T x q W hB hTl hNb (HI.out x q hx hq).1)
  have HCp := Lib.hid (fun W (hb : Below w.heap.size w W) => rmcopy_any R C gT N cT T W (hT.below hb) hTl (Nat.le_of_lt hNb))
  have HBd := Lib.hid (fun (k z : Int) (h : bndI k = z) W => show Calls Try.prog 45 #[.int .i64 k] W fun e w' => e = .returned (.int .i64 z) ∧ W = w' from by rw [← h]; exact rheld_any k W)
  have HA := Lib.hid hA
  have HZr := Lib.hid hzr
  have HB := Lib.hid hB
  have HZc := Lib.hid hzc
  have HWT := Lib.hid hWT
  have HTr := Lib.hid hT
  have HTl := Lib.hid hTl
  have HNb := Lib.hid hNb
  clear hT hTl hN hNb hA hzr hB hzc hWT
  unfold tbl at *
  go_enter Try.func18, Try.ntmps18
  have HZ0 := Lib.hid ((Blk.new w 32 #[.int .i64 (R : Int), .int .i64 (C : Int), .slice (some ⟨gT, 0, none⟩) N cT]).alloc (.cells #[.int .i64 0, .int .i64 0, .slice none 0 0] 32))
  have HE0 := Lib.hid (Blk.new_ (w.alloc (.cells #[.int .i64 (R : Int), .int .i64 (C : Int), .slice (some ⟨gT, 0, none⟩) N cT] 32)) 32 #[.int .i64 0, .int .i64 0, .slice none 0 0] (w.heap.size + 1) (by simp))
  have HB0 := Lib.hid (((Below.refl w.heap.size w).alloc (Nat.le_refl _) (.cells #[.int .i64 (R : Int), .int .i64 (C : Int), .slice (some ⟨gT, 0, none⟩) N cT] 32)).alloc (by simp) (.cells #[.int .i64 0, .int .i64 0, .slice none 0 0] 32))
  obtain ⟨d0, d1, d2⟩ := cells3v HZ0.out
  go_wp2_with fail
  refine (HCp.out _ HB0.out).mono ?_
  rintro e w1 ⟨go, co, rfl, hO, hg, hb⟩
  have HZ1 := Lib.hid ((HZ0.out.nxt hb).alloc (.cells #[.int .i64 (R : Int), .int .i64 (C : Int), .slice (some ⟨go, 0, none⟩) N co] 32))
  have HE1 := Lib.hid ((HE0.out.nxt hb).alloc (.cells #[.int .i64 (R : Int), .int .i64 (C : Int), .slice (some ⟨go, 0, none⟩) N co] 32))
  have HT1 := Lib.hid (Blk.new w1 32 #[.int .i64 (R : Int), .int .i64 (C : Int), .slice (some ⟨go, 0, none⟩) N co])
  have HO1 := Lib.hid (hO.nxt (below_one (o := (.cells #[.int .i64 (R : Int), .int .i64 (C : Int), .slice (some ⟨go, 0, none⟩) N co] 32))))
  have HB1 := Lib.hid (below_al (below_nx HB0.out hb) (o := (.cells #[.int .i64 (R : Int), .int .i64 (C : Int), .slice (some ⟨go, 0, none⟩) N co] 32)))
  have hgl := hO.lt
  have hsz := hb.size
  have HNe0 := Lib.hid (show w.heap.size + 2 ≤ go ∧ w.heap.size + 2 ≤ w1.heap.size ∧ go < w1.heap.size from ⟨by simp at hg; omega, by simp at hsz; omega, hgl⟩)
  clear hb hO hg hgl hsz d0 d1 d2
  obtain ⟨d0, d1, d2⟩ := cells3v HZ1.out
  go_wp2_with fail
  clear d0 d1 d2
  generalize hw2 : w1.alloc (.cells #[.int .i64 (R : Int), .int .i64 (C : Int), .slice (some ⟨go, 0, none⟩) N co] 32) = w2 at *
  generalize w1.heap.size = tb at *
  generalize hz : w.heap.size = z at *
  have HNe := HNe0
  have Hz := Lib.hid hz
  clear hw2 hz HNe0
  go_loopw [8] (fun x wr => ∃ (i1 : Nat) (T1 : List Nat), i1 ≤ R ∧ x = .int .i64 (i1 : Int) ∧ Hid (Ptb N (fun i j => i * C + j) R C (ShfT zr zc T C) i1 0 T1 ∧ Own wr go T1 ∧ Blk wr z 32 #[.int .i64 (R : Int), .int .i64 (C : Int), .slice (some ⟨gT, 0, none⟩) N cT] ∧ Blk wr (z + 1) 32 #[.int .i64 0, .int .i64 0, .slice none 0 0] ∧ Blk wr tb 32 #[.int .i64 (R : Int), .int .i64 (C : Int), .slice (some ⟨go, 0, none⟩) N co] ∧ Below z w wr)) (fun x _ => R - (intOf x).toNat)
  case atStart => exact ⟨0, _, Nat.zero_le _, rfl, Lib.hid ⟨Ptb.zero HTl.out, HO1.out, HZ1.out, HE1.out, HT1.out, HB1.out⟩⟩
  case round =>
    obtain ⟨i1, T1, hi1, rfl, HS⟩ := hrel
    obtain ⟨d0, d1, d2⟩ := cells3v HS.out.2.2.1
    by_cases hlt : i1 < R
    · have har2 : (i1 : Int) < (R : Int) := by omega
      have ha1 : i1 + 1 ≤ 1048576 := by omega
      go_wp2_with fail
      clear d0 d1 d2
      go_loopw [9] (fun x wr => ∃ (j1 : Nat) (T1 : List Nat), j1 ≤ C ∧ x = .int .i64 (j1 : Int) ∧ Hid (Ptb N (fun i j => i * C + j) R C (ShfT zr zc T C) i1 j1 T1 ∧ Own wr go T1 ∧ Blk wr z 32 #[.int .i64 (R : Int), .int .i64 (C : Int), .slice (some ⟨gT, 0, none⟩) N cT] ∧ Blk wr (z + 1) 32 #[.int .i64 0, .int .i64 0, .slice none 0 0] ∧ Blk wr tb 32 #[.int .i64 (R : Int), .int .i64 (C : Int), .slice (some ⟨go, 0, none⟩) N co] ∧ Below z w wr)) (fun x _ => C - (intOf x).toNat)
      case atStart => exact ⟨0, T1, Nat.zero_le _, rfl, HS⟩
      case round =>
        obtain ⟨j1, T1, hj1, rfl, HS⟩ := hrel
        obtain ⟨d0, d1, d2⟩ := cells3v HS.out.2.2.1
        by_cases hlt2 : j1 < C
        · have hs := HSl.out i1 j1 hlt hlt2
          obtain ⟨P, hP⟩ : ∃ P, i1 * C + j1 = P := ⟨_, rfl⟩
          have HSt0 := fun r hr => HS.out.1.step (r := r) (fun a ha b hb e => tab_injg hb hlt2 e) hs.1 hr
          have hsO : ∀ W r, Own W go T1 → Calls Try.prog 34 #[.agg #[.int .i64 (R : Int), .int .i64 (C : Int), .slice (some ⟨go, 0, none⟩) N co], .int .i64 (i1 : Int), .int .i64 (j1 : Int), .float .f64 r] W fun e w' => e = .returned (.tuple #[]) ∧ Own w' go (T1.set (i1 * C + j1) r) ∧ Only go W w' := fun W r h =>
            rset_own (R : Int) (C : Int) go N co T1 i1 j1 (i1 * C + j1) r W h HS.out.1.1 hs.1 (by have := HNb.out; omega) hs.2.2 hs.2.1
          have HAv := Lib.hid (fun W (h : Below z w W) => HAt.out W (HTr.out.below (by rw [Hz.out]; exact h)) i1 j1 hlt hlt2)
          obtain ⟨b1, y1, rfl, hcx⟩ := int_get (i := i1) HA.out HZr.out hlt
          obtain ⟨b2, y2, rfl, hcy⟩ := int_get (i := j1) HB.out HZc.out hlt2
          have hq1 := bndI_in (zr.getD i1 0)
          have hq2 := bndI_in (zc.getD j1 0)
          have hval : ShfT zr zc T C i1 j1 (Fl.scale (T.getD (i1 * C + j1) 0) (shfE (zr.getD i1 0) (zc.getD j1 0))) := rfl
          unfold shfE at hval
          have HCx := Lib.hid (cell_below hcx (show Below w.heap.size w wr by rw [Hz.out]; exact HS.out.2.2.2.2.2))
          have HCy := Lib.hid (cell_below hcy (show Below w.heap.size w wr by rw [Hz.out]; exact HS.out.2.2.2.2.2))
          obtain ⟨kr, hkr⟩ : ∃ kr, zr.getD i1 0 = kr := ⟨_, rfl⟩
          obtain ⟨kc, hkc⟩ : ∃ kc, zc.getD j1 0 = kc := ⟨_, rfl⟩
          obtain ⟨m0, hm0⟩ : ∃ m0, T.getD (i1 * C + j1) 0 = m0 := ⟨_, rfl⟩
          have hm0w := gr_wds HWT.out (i1 * C + j1)
          rw [hm0] at HAv hval hm0w
          rw [hkr] at HCx hq1 hval
          rw [hkc] at HCy hq2 hval
          obtain ⟨zr1, hzr1⟩ : ∃ z, bndI kr = z := ⟨_, rfl⟩
          obtain ⟨zc1, hzc1⟩ : ∃ z, bndI kc = z := ⟨_, rfl⟩
          rw [hzr1] at hq1 hval
          rw [hzc1] at hq2 hval
          obtain ⟨zs, hzs⟩ : ∃ zs, zr1 + zc1 = zs := ⟨_, rfl⟩
          have wz : wrap64 (zr1 + zc1) = zs := by rw [hzs]; exact wrap_id (by unfold I64; omega)
          have wz2 : IntKind.i64.wrap (zr1 + zc1) = zs := by rw [hzs]; exact wrapi (by omega) (by omega)
          rw [hzs] at hval
          obtain ⟨zf, hzf⟩ : ∃ zf, bndI zs = zf := ⟨_, rfl⟩
          rw [hzf] at hval
          have hzr1 := Lib.hid hzr1
          have hzc1 := Lib.hid hzc1
          have hzf := Lib.hid hzf
          have HVal := Lib.hid hval
          have HSc := Lib.hid (fun W => rscale_any m0 zf W hm0w)
          have bq1 : i1 < R := hlt
          have bq2 : j1 < C := hlt2
          have e5 : (j1 : Int) < (C : Int) := by omega
          have hb1 : j1 + 1 ≤ 1048576 := by omega
          simp only [hP] at hsO HSt0
          have HSt := Lib.hid HSt0
          have HStO := Lib.hid hsO
          have HWz := Lib.hid (fun W (h : Below wr.heap.size wr W) => show Below z w W from by have h2 := HS.out.2.2.2.2.2; rw [← Hz.out] at h2 ⊢; exact below_nx h2 h)
          have HZ := Lib.hid HS.out.2.2.1
          have HTb := Lib.hid HS.out.2.2.2.2.1
          have HOw := Lib.hid HS.out.2.1
          clear hs HSt0 hsO hP hm0 hcx hcy hkr hkc hm0w hval hq1 hq2 hzs
          go_wp2_with fail
          clear d0 d1 d2
          refine wp_region_inv [24, 25, 26, 27, 28, 29, 30, 31, 32, 33, 34, 35, 36, 37, 38, 39, 40, 41, 42, 43, 44] (fun d s W => (d 0 = true → s 24 = .agg #[.int .i64 (R : Int), .int .i64 (C : Int), .slice (some ⟨go, 0, none⟩) N co]) ∧ (d 1 = true → s 25 = .int .i64 (i1 : Int)) ∧ (d 2 = true → s 26 = .int .i64 (j1 : Int)) ∧ (d 3 = true → s 27 = .agg #[.int .i64 (R : Int), .int .i64 (C : Int), .slice (some ⟨gT, 0, none⟩) N cT]) ∧ (d 4 = true → s 28 = .int .i64 (i1 : Int)) ∧ (d 5 = true → s 29 = .int .i64 (j1 : Int)) ∧ (d 6 = true → s 30 = .float .f64 m0) ∧ (d 7 = true → s 31 = .slice (some ⟨b1, y1, none⟩) R rc) ∧ (d 8 = true → s 32 = .int .i64 (i1 : Int)) ∧ (d 9 = true → s 33 = .pointer (some ⟨b1, y1 + i1, none⟩)) ∧ (d 10 = true → s 34 = .int .i64 kr) ∧ (d 11 = true → s 35 = .int .i64 zr1) ∧ (d 12 = true → s 36 = .slice (some ⟨b2, y2, none⟩) C cc) ∧ (d 13 = true → s 37 = .int .i64 (j1 : Int)) ∧ (d 14 = true → s 38 = .pointer (some ⟨b2, y2 + j1, none⟩)) ∧ (d 15 = true → s 39 = .int .i64 kc) ∧ (d 16 = true → s 40 = .int .i64 zc1) ∧ (d 17 = true → s 41 = .int .i64 zs) ∧ (d 18 = true → s 42 = .int .i64 zf) ∧ (d 19 = true → s 43 = .float .f64 (Fl.scale m0 zf)) ∧ (d 20 = true → s 44 = .tuple #[]) ∧ (d 6 = true → d 3 = true ∧ d 4 = true ∧ d 5 = true) ∧ (d 9 = true → d 7 = true ∧ d 8 = true) ∧ (d 10 = true → d 7 = true ∧ d 8 = true ∧ d 9 = true) ∧ (d 11 = true → d 7 = true ∧ d 8 = true ∧ d 9 = true ∧ d 10 = true) ∧ (d 14 = true → d 12 = true ∧ d 13 = true) ∧ (d 15 = true → d 12 = true ∧ d 13 = true ∧ d 14 = true) ∧ (d 16 = true → d 12 = true ∧ d 13 = true ∧ d 14 = true ∧ d 15 = true) ∧ (d 17 = true → d 7 = true ∧ d 8 = true ∧ d 9 = true ∧ d 10 = true ∧ d 11 = true ∧ d 12 = true ∧ d 13 = true ∧ d 14 = true ∧ d 15 = true ∧ d 16 = true) ∧ (d 18 = true → d 7 = true ∧ d 8 = true ∧ d 9 = true ∧ d 10 = true ∧ d 11 = true ∧ d 12 = true ∧ d 13 = true ∧ d 14 = true ∧ d 15 = true ∧ d 16 = true ∧ d 17 = true) ∧ (d 19 = true → d 3 = true ∧ d 4 = true ∧ d 5 = true ∧ d 6 = true ∧ d 7 = true ∧ d 8 = true ∧ d 9 = true ∧ d 10 = true ∧ d 11 = true ∧ d 12 = true ∧ d 13 = true ∧ d 14 = true ∧ d 15 = true ∧ d 16 = true ∧ d 17 = true ∧ d 18 = true) ∧ (d 20 = true → d 0 = true ∧ d 1 = true ∧ d 2 = true ∧ d 3 = true ∧ d 4 = true ∧ d 5 = true ∧ d 6 = true ∧ d 7 = true ∧ d 8 = true ∧ d 9 = true ∧ d 10 = true ∧ d 11 = true ∧ d 12 = true ∧ d 13 = true ∧ d 14 = true ∧ d 15 = true ∧ d 16 = true ∧ d 17 = true ∧ d 18 = true ∧ d 19 = true) ∧ ((d 20 = false → Below wr.heap.size wr W) ∧ (d 20 = true → SetD go P ((ShfT zr zc T C) i1 j1) T1 wr W)))
            rfl (by kernel_rfl) ?_ ?_ ?_
          · exact ⟨by simp, by simp, by simp, by simp, by simp, by simp, by simp, by simp, by simp, by simp, by simp, by simp, by simp, by simp, by simp, by simp, by simp, by simp, by simp, by simp, by simp, by simp, by simp, by simp, by simp, by simp, by simp, by simp, by simp, by simp, by simp, by simp, ⟨fun _ => (Below.refl _ _).drew, fun h => by simp at h⟩⟩
          · refine ⟨?_, ?_, ?_, ?_, ?_, ?_, ?_, ?_, ?_, ?_, ?_, ?_, ?_, ?_, ?_, ?_, ?_, ?_, ?_, ?_, ?_, trivial⟩
            all_goals
              intro d s W hJ hfr hd hdep
              simp only [List.mem_cons, forall_eq_or_imp, List.not_mem_nil, false_implies, implies_true, and_true, Region.binds] at hdep
              have f1 := hfr 1 (by decide)
              have f2 := hfr 2 (by decide)
              have f3 := hfr 3 (by decide)
              have f7 := hfr 7 (by decide)
              have f8 := hfr 8 (by decide)
              have f9 := hfr 9 (by decide)
              simp at f1 f2 f3 f7 f8 f9 hdep
              obtain ⟨h0, h1, h2, h3, h4, h5, h6, h7, h8, h9, h10, h11, h12, h13, h14, h15, h16, h17, h18, h19, h20, x0, x1, x2, x3, x4, x5, x6, x7, x8, x9, x10, hT⟩ := hJ
              have hT0 := hT
            · have hl : d 20 = false := by
                cases h : d 20
                · rfl
                · have := x10 h; simp [hd] at this
              replace hT := hT.1 hl
              unfold OpSteps
              obtain ⟨p0, p1, p2⟩ := cells3v (HTb.out.below hT HTb.out.lt)
              simp [go_sem, evS, f7, p0, p1, p2]
              exact ⟨fun _ => by simp [sput], fun h => by simpa [sput] using h1 (by simpa [did] using h), fun h => by simpa [sput] using h2 (by simpa [did] using h), fun h => by simpa [sput] using h3 (by simpa [did] using h), fun h => by simpa [sput] using h4 (by simpa [did] using h), fun h => by simpa [sput] using h5 (by simpa [did] using h), fun h => by simpa [sput] using h6 (by simpa [did] using h), fun h => by simpa [sput] using h7 (by simpa [did] using h), fun h => by simpa [sput] using h8 (by simpa [did] using h), fun h => by simpa [sput] using h9 (by simpa [did] using h), fun h => by simpa [sput] using h10 (by simpa [did] using h), fun h => by simpa [sput] using h11 (by simpa [did] using h), fun h => by simpa [sput] using h12 (by simpa [did] using h), fun h => by simpa [sput] using h13 (by simpa [did] using h), fun h => by simpa [sput] using h14 (by simpa [did] using h), fun h => by simpa [sput] using h15 (by simpa [did] using h), fun h => by simpa [sput] using h16 (by simpa [did] using h), fun h => by simpa [sput] using h17 (by simpa [did] using h), fun h => by simpa [sput] using h18 (by simpa [did] using h), fun h => by simpa [sput] using h19 (by simpa [did] using h), fun h => by simpa [sput] using h20 (by simpa [did] using h), fun h => by have := x0 (by simpa [did] using h); simp [did, this], fun h => by have := x1 (by simpa [did] using h); simp [did, this], fun h => by have := x2 (by simpa [did] using h); simp [did, this], fun h => by have := x3 (by simpa [did] using h); simp [did, this], fun h => by have := x4 (by simpa [did] using h); simp [did, this], fun h => by have := x5 (by simpa [did] using h); simp [did, this], fun h => by have := x6 (by simpa [did] using h); simp [did, this], fun h => by have := x7 (by simpa [did] using h); simp [did, this], fun h => by have := x8 (by simpa [did] using h); simp [did, this], fun h => by have := x9 (by simpa [did] using h); simp [did, this], fun h => by have := x10 (by simpa [did] using h); simp [did, this], ⟨fun _ => hT, fun h => by simp [did, hl] at h⟩⟩
            · have hl : d 20 = false := by
                cases h : d 20
                · rfl
                · have := x10 h; simp [hd] at this
              replace hT := hT.1 hl
              unfold OpSteps
              simp [go_sem, evS, f8]
              exact ⟨fun h => by simpa [sput] using h0 (by simpa [did] using h), fun _ => by simp [sput], fun h => by simpa [sput] using h2 (by simpa [did] using h), fun h => by simpa [sput] using h3 (by simpa [did] using h), fun h => by simpa [sput] using h4 (by simpa [did] using h), fun h => by simpa [sput] using h5 (by simpa [did] using h), fun h => by simpa [sput] using h6 (by simpa [did] using h), fun h => by simpa [sput] using h7 (by simpa [did] using h), fun h => by simpa [sput] using h8 (by simpa [did] using h), fun h => by simpa [sput] using h9 (by simpa [did] using h), fun h => by simpa [sput] using h10 (by simpa [did] using h), fun h => by simpa [sput] using h11 (by simpa [did] using h), fun h => by simpa [sput] using h12 (by simpa [did] using h), fun h => by simpa [sput] using h13 (by simpa [did] using h), fun h => by simpa [sput] using h14 (by simpa [did] using h), fun h => by simpa [sput] using h15 (by simpa [did] using h), fun h => by simpa [sput] using h16 (by simpa [did] using h), fun h => by simpa [sput] using h17 (by simpa [did] using h), fun h => by simpa [sput] using h18 (by simpa [did] using h), fun h => by simpa [sput] using h19 (by simpa [did] using h), fun h => by simpa [sput] using h20 (by simpa [did] using h), fun h => by have := x0 (by simpa [did] using h); simp [did, this], fun h => by have := x1 (by simpa [did] using h); simp [did, this], fun h => by have := x2 (by simpa [did] using h); simp [did, this], fun h => by have := x3 (by simpa [did] using h); simp [did, this], fun h => by have := x4 (by simpa [did] using h); simp [did, this], fun h => by have := x5 (by simpa [did] using h); simp [did, this], fun h => by have := x6 (by simpa [did] using h); simp [did, this], fun h => by have := x7 (by simpa [did] using h); simp [did, this], fun h => by have := x8 (by simpa [did] using h); simp [did, this], fun h => by have := x9 (by simpa [did] using h); simp [did, this], fun h => by have := x10 (by simpa [did] using h); simp [did, this], ⟨fun _ => hT, fun h => by simp [did, hl] at h⟩⟩
            · have hl : d 20 = false := by
                cases h : d 20
                · rfl
                · have := x10 h; simp [hd] at this
              replace hT := hT.1 hl
              unfold OpSteps
              simp [go_sem, evS, f9]
              exact ⟨fun h => by simpa [sput] using h0 (by simpa [did] using h), fun h => by simpa [sput] using h1 (by simpa [did] using h), fun _ => by simp [sput], fun h => by simpa [sput] using h3 (by simpa [did] using h), fun h => by simpa [sput] using h4 (by simpa [did] using h), fun h => by simpa [sput] using h5 (by simpa [did] using h), fun h => by simpa [sput] using h6 (by simpa [did] using h), fun h => by simpa [sput] using h7 (by simpa [did] using h), fun h => by simpa [sput] using h8 (by simpa [did] using h), fun h => by simpa [sput] using h9 (by simpa [did] using h), fun h => by simpa [sput] using h10 (by simpa [did] using h), fun h => by simpa [sput] using h11 (by simpa [did] using h), fun h => by simpa [sput] using h12 (by simpa [did] using h), fun h => by simpa [sput] using h13 (by simpa [did] using h), fun h => by simpa [sput] using h14 (by simpa [did] using h), fun h => by simpa [sput] using h15 (by simpa [did] using h), fun h => by simpa [sput] using h16 (by simpa [did] using h), fun h => by simpa [sput] using h17 (by simpa [did] using h), fun h => by simpa [sput] using h18 (by simpa [did] using h), fun h => by simpa [sput] using h19 (by simpa [did] using h), fun h => by simpa [sput] using h20 (by simpa [did] using h), fun h => by have := x0 (by simpa [did] using h); simp [did, this], fun h => by have := x1 (by simpa [did] using h); simp [did, this], fun h => by have := x2 (by simpa [did] using h); simp [did, this], fun h => by have := x3 (by simpa [did] using h); simp [did, this], fun h => by have := x4 (by simpa [did] using h); simp [did, this], fun h => by have := x5 (by simpa [did] using h); simp [did, this], fun h => by have := x6 (by simpa [did] using h); simp [did, this], fun h => by have := x7 (by simpa [did] using h); simp [did, this], fun h => by have := x8 (by simpa [did] using h); simp [did, this], fun h => by have := x9 (by simpa [did] using h); simp [did, this], fun h => by have := x10 (by simpa [did] using h); simp [did, this], ⟨fun _ => hT, fun h => by simp [did, hl] at h⟩⟩
            · have hl : d 20 = false := by
                cases h : d 20
                · rfl
                · have := x10 h; simp [hd] at this
              replace hT := hT.1 hl
              unfold OpSteps
              obtain ⟨p0, p1, p2⟩ := cells3v (HZ.out.below hT HZ.out.lt)
              simp [go_sem, evS, f3, p0, p1, p2]
              exact ⟨fun h => by simpa [sput] using h0 (by simpa [did] using h), fun h => by simpa [sput] using h1 (by simpa [did] using h), fun h => by simpa [sput] using h2 (by simpa [did] using h), fun _ => by simp [sput], fun h => by simpa [sput] using h4 (by simpa [did] using h), fun h => by simpa [sput] using h5 (by simpa [did] using h), fun h => by simpa [sput] using h6 (by simpa [did] using h), fun h => by simpa [sput] using h7 (by simpa [did] using h), fun h => by simpa [sput] using h8 (by simpa [did] using h), fun h => by simpa [sput] using h9 (by simpa [did] using h), fun h => by simpa [sput] using h10 (by simpa [did] using h), fun h => by simpa [sput] using h11 (by simpa [did] using h), fun h => by simpa [sput] using h12 (by simpa [did] using h), fun h => by simpa [sput] using h13 (by simpa [did] using h), fun h => by simpa [sput] using h14 (by simpa [did] using h), fun h => by simpa [sput] using h15 (by simpa [did] using h), fun h => by simpa [sput] using h16 (by simpa [did] using h), fun h => by simpa [sput] using h17 (by simpa [did] using h), fun h => by simpa [sput] using h18 (by simpa [did] using h), fun h => by simpa [sput] using h19 (by simpa [did] using h), fun h => by simpa [sput] using h20 (by simpa [did] using h), fun h => by have := x0 (by simpa [did] using h); simp [did, this], fun h => by have := x1 (by simpa [did] using h); simp [did, this], fun h => by have := x2 (by simpa [did] using h); simp [did, this], fun h => by have := x3 (by simpa [did] using h); simp [did, this], fun h => by have := x4 (by simpa [did] using h); simp [did, this], fun h => by have := x5 (by simpa [did] using h); simp [did, this], fun h => by have := x6 (by simpa [did] using h); simp [did, this], fun h => by have := x7 (by simpa [did] using h); simp [did, this], fun h => by have := x8 (by simpa [did] using h); simp [did, this], fun h => by have := x9 (by simpa [did] using h); simp [did, this], fun h => by have := x10 (by simpa [did] using h); simp [did, this], ⟨fun _ => hT, fun h => by simp [did, hl] at h⟩⟩
            · have hl : d 20 = false := by
                cases h : d 20
                · rfl
                · have := x10 h; simp [hd] at this
              replace hT := hT.1 hl
              unfold OpSteps
              simp [go_sem, evS, f8]
              exact ⟨fun h => by simpa [sput] using h0 (by simpa [did] using h), fun h => by simpa [sput] using h1 (by simpa [did] using h), fun h => by simpa [sput] using h2 (by simpa [did] using h), fun h => by simpa [sput] using h3 (by simpa [did] using h), fun _ => by simp [sput], fun h => by simpa [sput] using h5 (by simpa [did] using h), fun h => by simpa [sput] using h6 (by simpa [did] using h), fun h => by simpa [sput] using h7 (by simpa [did] using h), fun h => by simpa [sput] using h8 (by simpa [did] using h), fun h => by simpa [sput] using h9 (by simpa [did] using h), fun h => by simpa [sput] using h10 (by simpa [did] using h), fun h => by simpa [sput] using h11 (by simpa [did] using h), fun h => by simpa [sput] using h12 (by simpa [did] using h), fun h => by simpa [sput] using h13 (by simpa [did] using h), fun h => by simpa [sput] using h14 (by simpa [did] using h), fun h => by simpa [sput] using h15 (by simpa [did] using h), fun h => by simpa [sput] using h16 (by simpa [did] using h), fun h => by simpa [sput] using h17 (by simpa [did] using h), fun h => by simpa [sput] using h18 (by simpa [did] using h), fun h => by simpa [sput] using h19 (by simpa [did] using h), fun h => by simpa [sput] using h20 (by simpa [did] using h), fun h => by have := x0 (by simpa [did] using h); simp [did, this], fun h => by have := x1 (by simpa [did] using h); simp [did, this], fun h => by have := x2 (by simpa [did] using h); simp [did, this], fun h => by have := x3 (by simpa [did] using h); simp [did, this], fun h => by have := x4 (by simpa [did] using h); simp [did, this], fun h => by have := x5 (by simpa [did] using h); simp [did, this], fun h => by have := x6 (by simpa [did] using h); simp [did, this], fun h => by have := x7 (by simpa [did] using h); simp [did, this], fun h => by have := x8 (by simpa [did] using h); simp [did, this], fun h => by have := x9 (by simpa [did] using h); simp [did, this], fun h => by have := x10 (by simpa [did] using h); simp [did, this], ⟨fun _ => hT, fun h => by simp [did, hl] at h⟩⟩
            · have hl : d 20 = false := by
                cases h : d 20
                · rfl
                · have := x10 h; simp [hd] at this
              replace hT := hT.1 hl
              unfold OpSteps
              simp [go_sem, evS, f9]
              exact ⟨fun h => by simpa [sput] using h0 (by simpa [did] using h), fun h => by simpa [sput] using h1 (by simpa [did] using h), fun h => by simpa [sput] using h2 (by simpa [did] using h), fun h => by simpa [sput] using h3 (by simpa [did] using h), fun h => by simpa [sput] using h4 (by simpa [did] using h), fun _ => by simp [sput], fun h => by simpa [sput] using h6 (by simpa [did] using h), fun h => by simpa [sput] using h7 (by simpa [did] using h), fun h => by simpa [sput] using h8 (by simpa [did] using h), fun h => by simpa [sput] using h9 (by simpa [did] using h), fun h => by simpa [sput] using h10 (by simpa [did] using h), fun h => by simpa [sput] using h11 (by simpa [did] using h), fun h => by simpa [sput] using h12 (by simpa [did] using h), fun h => by simpa [sput] using h13 (by simpa [did] using h), fun h => by simpa [sput] using h14 (by simpa [did] using h), fun h => by simpa [sput] using h15 (by simpa [did] using h), fun h => by simpa [sput] using h16 (by simpa [did] using h), fun h => by simpa [sput] using h17 (by simpa [did] using h), fun h => by simpa [sput] using h18 (by simpa [did] using h), fun h => by simpa [sput] using h19 (by simpa [did] using h), fun h => by simpa [sput] using h20 (by simpa [did] using h), fun h => by have := x0 (by simpa [did] using h); simp [did, this], fun h => by have := x1 (by simpa [did] using h); simp [did, this], fun h => by have := x2 (by simpa [did] using h); simp [did, this], fun h => by have := x3 (by simpa [did] using h); simp [did, this], fun h => by have := x4 (by simpa [did] using h); simp [did, this], fun h => by have := x5 (by simpa [did] using h); simp [did, this], fun h => by have := x6 (by simpa [did] using h); simp [did, this], fun h => by have := x7 (by simpa [did] using h); simp [did, this], fun h => by have := x8 (by simpa [did] using h); simp [did, this], fun h => by have := x9 (by simpa [did] using h); simp [did, this], fun h => by have := x10 (by simpa [did] using h); simp [did, this], ⟨fun _ => hT, fun h => by simp [did, hl] at h⟩⟩
            · have hl : d 20 = false := by
                cases h : d 20
                · rfl
                · have := x10 h; simp [hd] at this
              replace hT := hT.1 hl
              have g3 := h3 (by simp [hdep])
              have g4 := h4 (by simp [hdep])
              have g5 := h5 (by simp [hdep])
              unfold OpSteps
              simp [go_sem, evS, g3, g4, g5]
              refine (HAv.out W (HWz.out W hT)).mono ?_
              rintro e W' ⟨rfl, hb⟩
              refine ⟨_, rfl, ?_⟩
              exact ⟨fun h => by simpa [sput] using h0 (by simpa [did] using h), fun h => by simpa [sput] using h1 (by simpa [did] using h), fun h => by simpa [sput] using h2 (by simpa [did] using h), fun h => by simpa [sput] using h3 (by simpa [did] using h), fun h => by simpa [sput] using h4 (by simpa [did] using h), fun h => by simpa [sput] using h5 (by simpa [did] using h), fun _ => by simp [sput], fun h => by simpa [sput] using h7 (by simpa [did] using h), fun h => by simpa [sput] using h8 (by simpa [did] using h), fun h => by simpa [sput] using h9 (by simpa [did] using h), fun h => by simpa [sput] using h10 (by simpa [did] using h), fun h => by simpa [sput] using h11 (by simpa [did] using h), fun h => by simpa [sput] using h12 (by simpa [did] using h), fun h => by simpa [sput] using h13 (by simpa [did] using h), fun h => by simpa [sput] using h14 (by simpa [did] using h), fun h => by simpa [sput] using h15 (by simpa [did] using h), fun h => by simpa [sput] using h16 (by simpa [did] using h), fun h => by simpa [sput] using h17 (by simpa [did] using h), fun h => by simpa [sput] using h18 (by simpa [did] using h), fun h => by simpa [sput] using h19 (by simpa [did] using h), fun h => by simpa [sput] using h20 (by simpa [did] using h), fun _ => by simp [did, hdep], fun h => by have := x1 (by simpa [did] using h); simp [did, this], fun h => by have := x2 (by simpa [did] using h); simp [did, this], fun h => by have := x3 (by simpa [did] using h); simp [did, this], fun h => by have := x4 (by simpa [did] using h); simp [did, this], fun h => by have := x5 (by simpa [did] using h); simp [did, this], fun h => by have := x6 (by simpa [did] using h); simp [did, this], fun h => by have := x7 (by simpa [did] using h); simp [did, this], fun h => by have := x8 (by simpa [did] using h); simp [did, this], fun h => by have := x9 (by simpa [did] using h); simp [did, this], fun h => by have := x10 (by simpa [did] using h); simp [did, this], ⟨fun _ => below_nx hT hb, fun h => by simp [did, hl] at h⟩⟩
            · have hl : d 20 = false := by
                cases h : d 20
                · rfl
                · have := x10 h; simp [hd] at this
              replace hT := hT.1 hl
              unfold OpSteps
              simp [go_sem, evS, f1]
              exact ⟨fun h => by simpa [sput] using h0 (by simpa [did] using h), fun h => by simpa [sput] using h1 (by simpa [did] using h), fun h => by simpa [sput] using h2 (by simpa [did] using h), fun h => by simpa [sput] using h3 (by simpa [did] using h), fun h => by simpa [sput] using h4 (by simpa [did] using h), fun h => by simpa [sput] using h5 (by simpa [did] using h), fun h => by simpa [sput] using h6 (by simpa [did] using h), fun _ => by simp [sput], fun h => by simpa [sput] using h8 (by simpa [did] using h), fun h => by simpa [sput] using h9 (by simpa [did] using h), fun h => by simpa [sput] using h10 (by simpa [did] using h), fun h => by simpa [sput] using h11 (by simpa [did] using h), fun h => by simpa [sput] using h12 (by simpa [did] using h), fun h => by simpa [sput] using h13 (by simpa [did] using h), fun h => by simpa [sput] using h14 (by simpa [did] using h), fun h => by simpa [sput] using h15 (by simpa [did] using h), fun h => by simpa [sput] using h16 (by simpa [did] using h), fun h => by simpa [sput] using h17 (by simpa [did] using h), fun h => by simpa [sput] using h18 (by simpa [did] using h), fun h => by simpa [sput] using h19 (by simpa [did] using h), fun h => by simpa [sput] using h20 (by simpa [did] using h), fun h => by have := x0 (by simpa [did] using h); simp [did, this], fun h => by have := x1 (by simpa [did] using h); simp [did, this], fun h => by have := x2 (by simpa [did] using h); simp [did, this], fun h => by have := x3 (by simpa [did] using h); simp [did, this], fun h => by have := x4 (by simpa [did] using h); simp [did, this], fun h => by have := x5 (by simpa [did] using h); simp [did, this], fun h => by have := x6 (by simpa [did] using h); simp [did, this], fun h => by have := x7 (by simpa [did] using h); simp [did, this], fun h => by have := x8 (by simpa [did] using h); simp [did, this], fun h => by have := x9 (by simpa [did] using h); simp [did, this], fun h => by have := x10 (by simpa [did] using h); simp [did, this], ⟨fun _ => hT, fun h => by simp [did, hl] at h⟩⟩
            · have hl : d 20 = false := by
                cases h : d 20
                · rfl
                · have := x10 h; simp [hd] at this
              replace hT := hT.1 hl
              unfold OpSteps
              simp [go_sem, evS, f8]
              exact ⟨fun h => by simpa [sput] using h0 (by simpa [did] using h), fun h => by simpa [sput] using h1 (by simpa [did] using h), fun h => by simpa [sput] using h2 (by simpa [did] using h), fun h => by simpa [sput] using h3 (by simpa [did] using h), fun h => by simpa [sput] using h4 (by simpa [did] using h), fun h => by simpa [sput] using h5 (by simpa [did] using h), fun h => by simpa [sput] using h6 (by simpa [did] using h), fun h => by simpa [sput] using h7 (by simpa [did] using h), fun _ => by simp [sput], fun h => by simpa [sput] using h9 (by simpa [did] using h), fun h => by simpa [sput] using h10 (by simpa [did] using h), fun h => by simpa [sput] using h11 (by simpa [did] using h), fun h => by simpa [sput] using h12 (by simpa [did] using h), fun h => by simpa [sput] using h13 (by simpa [did] using h), fun h => by simpa [sput] using h14 (by simpa [did] using h), fun h => by simpa [sput] using h15 (by simpa [did] using h), fun h => by simpa [sput] using h16 (by simpa [did] using h), fun h => by simpa [sput] using h17 (by simpa [did] using h), fun h => by simpa [sput] using h18 (by simpa [did] using h), fun h => by simpa [sput] using h19 (by simpa [did] using h), fun h => by simpa [sput] using h20 (by simpa [did] using h), fun h => by have := x0 (by simpa [did] using h); simp [did, this], fun h => by have := x1 (by simpa [did] using h); simp [did, this], fun h => by have := x2 (by simpa [did] using h); simp [did, this], fun h => by have := x3 (by simpa [did] using h); simp [did, this], fun h => by have := x4 (by simpa [did] using h); simp [did, this], fun h => by have := x5 (by simpa [did] using h); simp [did, this], fun h => by have := x6 (by simpa [did] using h); simp [did, this], fun h => by have := x7 (by simpa [did] using h); simp [did, this], fun h => by have := x8 (by simpa [did] using h); simp [did, this], fun h => by have := x9 (by simpa [did] using h); simp [did, this], fun h => by have := x10 (by simpa [did] using h); simp [did, this], ⟨fun _ => hT, fun h => by simp [did, hl] at h⟩⟩
            · have hl : d 20 = false := by
                cases h : d 20
                · rfl
                · have := x10 h; simp [hd] at this
              replace hT := hT.1 hl
              have g7 := h7 (by simp [hdep])
              have g8 := h8 (by simp [hdep])
              unfold OpSteps
              simp [go_sem, evS, g7, g8, bq1, bq2]
              exact ⟨fun h => by simpa [sput] using h0 (by simpa [did] using h), fun h => by simpa [sput] using h1 (by simpa [did] using h), fun h => by simpa [sput] using h2 (by simpa [did] using h), fun h => by simpa [sput] using h3 (by simpa [did] using h), fun h => by simpa [sput] using h4 (by simpa [did] using h), fun h => by simpa [sput] using h5 (by simpa [did] using h), fun h => by simpa [sput] using h6 (by simpa [did] using h), fun h => by simpa [sput] using h7 (by simpa [did] using h), fun h => by simpa [sput] using h8 (by simpa [did] using h), fun _ => by simp [sput], fun h => by simpa [sput] using h10 (by simpa [did] using h), fun h => by simpa [sput] using h11 (by simpa [did] using h), fun h => by simpa [sput] using h12 (by simpa [did] using h), fun h => by simpa [sput] using h13 (by simpa [did] using h), fun h => by simpa [sput] using h14 (by simpa [did] using h), fun h => by simpa [sput] using h15 (by simpa [did] using h), fun h => by simpa [sput] using h16 (by simpa [did] using h), fun h => by simpa [sput] using h17 (by simpa [did] using h), fun h => by simpa [sput] using h18 (by simpa [did] using h), fun h => by simpa [sput] using h19 (by simpa [did] using h), fun h => by simpa [sput] using h20 (by simpa [did] using h), fun h => by have := x0 (by simpa [did] using h); simp [did, this], fun _ => by simp [did, hdep], fun h => by have := x2 (by simpa [did] using h); simp [did, this], fun h => by have := x3 (by simpa [did] using h); simp [did, this], fun h => by have := x4 (by simpa [did] using h); simp [did, this], fun h => by have := x5 (by simpa [did] using h); simp [did, this], fun h => by have := x6 (by simpa [did] using h); simp [did, this], fun h => by have := x7 (by simpa [did] using h); simp [did, this], fun h => by have := x8 (by simpa [did] using h); simp [did, this], fun h => by have := x9 (by simpa [did] using h); simp [did, this], fun h => by have := x10 (by simpa [did] using h); simp [did, this], ⟨fun _ => hT, fun h => by simp [did, hl] at h⟩⟩
            · have hl : d 20 = false := by
                cases h : d 20
                · rfl
                · have := x10 h; simp [hd] at this
              replace hT := hT.1 hl
              have g9 := h9 (by simp [hdep])
              unfold OpSteps
              have pc := cell_below HCx.out hT
              simp [go_sem, evS, g9, pc]
              exact ⟨fun h => by simpa [sput] using h0 (by simpa [did] using h), fun h => by simpa [sput] using h1 (by simpa [did] using h), fun h => by simpa [sput] using h2 (by simpa [did] using h), fun h => by simpa [sput] using h3 (by simpa [did] using h), fun h => by simpa [sput] using h4 (by simpa [did] using h), fun h => by simpa [sput] using h5 (by simpa [did] using h), fun h => by simpa [sput] using h6 (by simpa [did] using h), fun h => by simpa [sput] using h7 (by simpa [did] using h), fun h => by simpa [sput] using h8 (by simpa [did] using h), fun h => by simpa [sput] using h9 (by simpa [did] using h), fun _ => by simp [sput], fun h => by simpa [sput] using h11 (by simpa [did] using h), fun h => by simpa [sput] using h12 (by simpa [did] using h), fun h => by simpa [sput] using h13 (by simpa [did] using h), fun h => by simpa [sput] using h14 (by simpa [did] using h), fun h => by simpa [sput] using h15 (by simpa [did] using h), fun h => by simpa [sput] using h16 (by simpa [did] using h), fun h => by simpa [sput] using h17 (by simpa [did] using h), fun h => by simpa [sput] using h18 (by simpa [did] using h), fun h => by simpa [sput] using h19 (by simpa [did] using h), fun h => by simpa [sput] using h20 (by simpa [did] using h), fun h => by have := x0 (by simpa [did] using h); simp [did, this], fun h => by have := x1 (by simpa [did] using h); simp [did, this], fun _ => by have y9 := x1 (by simp [hdep]); simp [did, hdep, y9], fun h => by have := x3 (by simpa [did] using h); simp [did, this], fun h => by have := x4 (by simpa [did] using h); simp [did, this], fun h => by have := x5 (by simpa [did] using h); simp [did, this], fun h => by have := x6 (by simpa [did] using h); simp [did, this], fun h => by have := x7 (by simpa [did] using h); simp [did, this], fun h => by have := x8 (by simpa [did] using h); simp [did, this], fun h => by have := x9 (by simpa [did] using h); simp [did, this], fun h => by have := x10 (by simpa [did] using h); simp [did, this], ⟨fun _ => hT, fun h => by simp [did, hl] at h⟩⟩
            · have hl : d 20 = false := by
                cases h : d 20
                · rfl
                · have := x10 h; simp [hd] at this
              replace hT := hT.1 hl
              have g10 := h10 (by simp [hdep])
              unfold OpSteps
              simp [go_sem, evS, g10]
              refine (HBd.out kr zr1 hzr1.out W).mono ?_
              rintro e W' ⟨rfl, rfl⟩
              refine ⟨_, rfl, ?_⟩
              exact ⟨fun h => by simpa [sput] using h0 (by simpa [did] using h), fun h => by simpa [sput] using h1 (by simpa [did] using h), fun h => by simpa [sput] using h2 (by simpa [did] using h), fun h => by simpa [sput] using h3 (by simpa [did] using h), fun h => by simpa [sput] using h4 (by simpa [did] using h), fun h => by simpa [sput] using h5 (by simpa [did] using h), fun h => by simpa [sput] using h6 (by simpa [did] using h), fun h => by simpa [sput] using h7 (by simpa [did] using h), fun h => by simpa [sput] using h8 (by simpa [did] using h), fun h => by simpa [sput] using h9 (by simpa [did] using h), fun h => by simpa [sput] using h10 (by simpa [did] using h), fun _ => by simp [sput], fun h => by simpa [sput] using h12 (by simpa [did] using h), fun h => by simpa [sput] using h13 (by simpa [did] using h), fun h => by simpa [sput] using h14 (by simpa [did] using h), fun h => by simpa [sput] using h15 (by simpa [did] using h), fun h => by simpa [sput] using h16 (by simpa [did] using h), fun h => by simpa [sput] using h17 (by simpa [did] using h), fun h => by simpa [sput] using h18 (by simpa [did] using h), fun h => by simpa [sput] using h19 (by simpa [did] using h), fun h => by simpa [sput] using h20 (by simpa [did] using h), fun h => by have := x0 (by simpa [did] using h); simp [did, this], fun h => by have := x1 (by simpa [did] using h); simp [did, this], fun h => by have := x2 (by simpa [did] using h); simp [did, this], fun _ => by have y10 := x2 (by simp [hdep]); simp [did, hdep, y10], fun h => by have := x4 (by simpa [did] using h); simp [did, this], fun h => by have := x5 (by simpa [did] using h); simp [did, this], fun h => by have := x6 (by simpa [did] using h); simp [did, this], fun h => by have := x7 (by simpa [did] using h); simp [did, this], fun h => by have := x8 (by simpa [did] using h); simp [did, this], fun h => by have := x9 (by simpa [did] using h); simp [did, this], fun h => by have := x10 (by simpa [did] using h); simp [did, this], ⟨fun _ => hT, fun h => by simp [did, hl] at h⟩⟩
            · have hl : d 20 = false := by
                cases h : d 20
                · rfl
                · have := x10 h; simp [hd] at this
              replace hT := hT.1 hl
              unfold OpSteps
              simp [go_sem, evS, f2]
              exact ⟨fun h => by simpa [sput] using h0 (by simpa [did] using h), fun h => by simpa [sput] using h1 (by simpa [did] using h), fun h => by simpa [sput] using h2 (by simpa [did] using h), fun h => by simpa [sput] using h3 (by simpa [did] using h), fun h => by simpa [sput] using h4 (by simpa [did] using h), fun h => by simpa [sput] using h5 (by simpa [did] using h), fun h => by simpa [sput] using h6 (by simpa [did] using h), fun h => by simpa [sput] using h7 (by simpa [did] using h), fun h => by simpa [sput] using h8 (by simpa [did] using h), fun h => by simpa [sput] using h9 (by simpa [did] using h), fun h => by simpa [sput] using h10 (by simpa [did] using h), fun h => by simpa [sput] using h11 (by simpa [did] using h), fun _ => by simp [sput], fun h => by simpa [sput] using h13 (by simpa [did] using h), fun h => by simpa [sput] using h14 (by simpa [did] using h), fun h => by simpa [sput] using h15 (by simpa [did] using h), fun h => by simpa [sput] using h16 (by simpa [did] using h), fun h => by simpa [sput] using h17 (by simpa [did] using h), fun h => by simpa [sput] using h18 (by simpa [did] using h), fun h => by simpa [sput] using h19 (by simpa [did] using h), fun h => by simpa [sput] using h20 (by simpa [did] using h), fun h => by have := x0 (by simpa [did] using h); simp [did, this], fun h => by have := x1 (by simpa [did] using h); simp [did, this], fun h => by have := x2 (by simpa [did] using h); simp [did, this], fun h => by have := x3 (by simpa [did] using h); simp [did, this], fun h => by have := x4 (by simpa [did] using h); simp [did, this], fun h => by have := x5 (by simpa [did] using h); simp [did, this], fun h => by have := x6 (by simpa [did] using h); simp [did, this], fun h => by have := x7 (by simpa [did] using h); simp [did, this], fun h => by have := x8 (by simpa [did] using h); simp [did, this], fun h => by have := x9 (by simpa [did] using h); simp [did, this], fun h => by have := x10 (by simpa [did] using h); simp [did, this], ⟨fun _ => hT, fun h => by simp [did, hl] at h⟩⟩
            · have hl : d 20 = false := by
                cases h : d 20
                · rfl
                · have := x10 h; simp [hd] at this
              replace hT := hT.1 hl
              unfold OpSteps
              simp [go_sem, evS, f9]
              exact ⟨fun h => by simpa [sput] using h0 (by simpa [did] using h), fun h => by simpa [sput] using h1 (by simpa [did] using h), fun h => by simpa [sput] using h2 (by simpa [did] using h), fun h => by simpa [sput] using h3 (by simpa [did] using h), fun h => by simpa [sput] using h4 (by simpa [did] using h), fun h => by simpa [sput] using h5 (by simpa [did] using h), fun h => by simpa [sput] using h6 (by simpa [did] using h), fun h => by simpa [sput] using h7 (by simpa [did] using h), fun h => by simpa [sput] using h8 (by simpa [did] using h), fun h => by simpa [sput] using h9 (by simpa [did] using h), fun h => by simpa [sput] using h10 (by simpa [did] using h), fun h => by simpa [sput] using h11 (by simpa [did] using h), fun h => by simpa [sput] using h12 (by simpa [did] using h), fun _ => by simp [sput], fun h => by simpa [sput] using h14 (by simpa [did] using h), fun h => by simpa [sput] using h15 (by simpa [did] using h), fun h => by simpa [sput] using h16 (by simpa [did] using h), fun h => by simpa [sput] using h17 (by simpa [did] using h), fun h => by simpa [sput] using h18 (by simpa [did] using h), fun h => by simpa [sput] using h19 (by simpa [did] using h), fun h => by simpa [sput] using h20 (by simpa [did] using h), fun h => by have := x0 (by simpa [did] using h); simp [did, this], fun h => by have := x1 (by simpa [did] using h); simp [did, this], fun h => by have := x2 (by simpa [did] using h); simp [did, this], fun h => by have := x3 (by simpa [did] using h); simp [did, this], fun h => by have := x4 (by simpa [did] using h); simp [did, this], fun h => by have := x5 (by simpa [did] using h); simp [did, this], fun h => by have := x6 (by simpa [did] using h); simp [did, this], fun h => by have := x7 (by simpa [did] using h); simp [did, this], fun h => by have := x8 (by simpa [did] using h); simp [did, this], fun h => by have := x9 (by simpa [did] using h); simp [did, this], fun h => by have := x10 (by simpa [did] using h); simp [did, this], ⟨fun _ => hT, fun h => by simp [did, hl] at h⟩⟩
            · have hl : d 20 = false := by
                cases h : d 20
                · rfl
                · have := x10 h; simp [hd] at this
              replace hT := hT.1 hl
              have g12 := h12 (by simp [hdep])
              have g13 := h13 (by simp [hdep])
              unfold OpSteps
              simp [go_sem, evS, g12, g13, bq1, bq2]
              exact ⟨fun h => by simpa [sput] using h0 (by simpa [did] using h), fun h => by simpa [sput] using h1 (by simpa [did] using h), fun h => by simpa [sput] using h2 (by simpa [did] using h), fun h => by simpa [sput] using h3 (by simpa [did] using h), fun h => by simpa [sput] using h4 (by simpa [did] using h), fun h => by simpa [sput] using h5 (by simpa [did] using h), fun h => by simpa [sput] using h6 (by simpa [did] using h), fun h => by simpa [sput] using h7 (by simpa [did] using h), fun h => by simpa [sput] using h8 (by simpa [did] using h), fun h => by simpa [sput] using h9 (by simpa [did] using h), fun h => by simpa [sput] using h10 (by simpa [did] using h), fun h => by simpa [sput] using h11 (by simpa [did] using h), fun h => by simpa [sput] using h12 (by simpa [did] using h), fun h => by simpa [sput] using h13 (by simpa [did] using h), fun _ => by simp [sput], fun h => by simpa [sput] using h15 (by simpa [did] using h), fun h => by simpa [sput] using h16 (by simpa [did] using h), fun h => by simpa [sput] using h17 (by simpa [did] using h), fun h => by simpa [sput] using h18 (by simpa [did] using h), fun h => by simpa [sput] using h19 (by simpa [did] using h), fun h => by simpa [sput] using h20 (by simpa [did] using h), fun h => by have := x0 (by simpa [did] using h); simp [did, this], fun h => by have := x1 (by simpa [did] using h); simp [did, this], fun h => by have := x2 (by simpa [did] using h); simp [did, this], fun h => by have := x3 (by simpa [did] using h); simp [did, this], fun _ => by simp [did, hdep], fun h => by have := x5 (by simpa [did] using h); simp [did, this], fun h => by have := x6 (by simpa [did] using h); simp [did, this], fun h => by have := x7 (by simpa [did] using h); simp [did, this], fun h => by have := x8 (by simpa [did] using h); simp [did, this], fun h => by have := x9 (by simpa [did] using h); simp [did, this], fun h => by have := x10 (by simpa [did] using h); simp [did, this], ⟨fun _ => hT, fun h => by simp [did, hl] at h⟩⟩
            · have hl : d 20 = false := by
                cases h : d 20
                · rfl
                · have := x10 h; simp [hd] at this
              replace hT := hT.1 hl
              have g14 := h14 (by simp [hdep])
              unfold OpSteps
              have pc := cell_below HCy.out hT
              simp [go_sem, evS, g14, pc]
              exact ⟨fun h => by simpa [sput] using h0 (by simpa [did] using h), fun h => by simpa [sput] using h1 (by simpa [did] using h), fun h => by simpa [sput] using h2 (by simpa [did] using h), fun h => by simpa [sput] using h3 (by simpa [did] using h), fun h => by simpa [sput] using h4 (by simpa [did] using h), fun h => by simpa [sput] using h5 (by simpa [did] using h), fun h => by simpa [sput] using h6 (by simpa [did] using h), fun h => by simpa [sput] using h7 (by simpa [did] using h), fun h => by simpa [sput] using h8 (by simpa [did] using h), fun h => by simpa [sput] using h9 (by simpa [did] using h), fun h => by simpa [sput] using h10 (by simpa [did] using h), fun h => by simpa [sput] using h11 (by simpa [did] using h), fun h => by simpa [sput] using h12 (by simpa [did] using h), fun h => by simpa [sput] using h13 (by simpa [did] using h), fun h => by simpa [sput] using h14 (by simpa [did] using h), fun _ => by simp [sput], fun h => by simpa [sput] using h16 (by simpa [did] using h), fun h => by simpa [sput] using h17 (by simpa [did] using h), fun h => by simpa [sput] using h18 (by simpa [did] using h), fun h => by simpa [sput] using h19 (by simpa [did] using h), fun h => by simpa [sput] using h20 (by simpa [did] using h), fun h => by have := x0 (by simpa [did] using h); simp [did, this], fun h => by have := x1 (by simpa [did] using h); simp [did, this], fun h => by have := x2 (by simpa [did] using h); simp [did, this], fun h => by have := x3 (by simpa [did] using h); simp [did, this], fun h => by have := x4 (by simpa [did] using h); simp [did, this], fun _ => by have y14 := x4 (by simp [hdep]); simp [did, hdep, y14], fun h => by have := x6 (by simpa [did] using h); simp [did, this], fun h => by have := x7 (by simpa [did] using h); simp [did, this], fun h => by have := x8 (by simpa [did] using h); simp [did, this], fun h => by have := x9 (by simpa [did] using h); simp [did, this], fun h => by have := x10 (by simpa [did] using h); simp [did, this], ⟨fun _ => hT, fun h => by simp [did, hl] at h⟩⟩
            · have hl : d 20 = false := by
                cases h : d 20
                · rfl
                · have := x10 h; simp [hd] at this
              replace hT := hT.1 hl
              have g15 := h15 (by simp [hdep])
              unfold OpSteps
              simp [go_sem, evS, g15]
              refine (HBd.out kc zc1 hzc1.out W).mono ?_
              rintro e W' ⟨rfl, rfl⟩
              refine ⟨_, rfl, ?_⟩
              exact ⟨fun h => by simpa [sput] using h0 (by simpa [did] using h), fun h => by simpa [sput] using h1 (by simpa [did] using h), fun h => by simpa [sput] using h2 (by simpa [did] using h), fun h => by simpa [sput] using h3 (by simpa [did] using h), fun h => by simpa [sput] using h4 (by simpa [did] using h), fun h => by simpa [sput] using h5 (by simpa [did] using h), fun h => by simpa [sput] using h6 (by simpa [did] using h), fun h => by simpa [sput] using h7 (by simpa [did] using h), fun h => by simpa [sput] using h8 (by simpa [did] using h), fun h => by simpa [sput] using h9 (by simpa [did] using h), fun h => by simpa [sput] using h10 (by simpa [did] using h), fun h => by simpa [sput] using h11 (by simpa [did] using h), fun h => by simpa [sput] using h12 (by simpa [did] using h), fun h => by simpa [sput] using h13 (by simpa [did] using h), fun h => by simpa [sput] using h14 (by simpa [did] using h), fun h => by simpa [sput] using h15 (by simpa [did] using h), fun _ => by simp [sput], fun h => by simpa [sput] using h17 (by simpa [did] using h), fun h => by simpa [sput] using h18 (by simpa [did] using h), fun h => by simpa [sput] using h19 (by simpa [did] using h), fun h => by simpa [sput] using h20 (by simpa [did] using h), fun h => by have := x0 (by simpa [did] using h); simp [did, this], fun h => by have := x1 (by simpa [did] using h); simp [did, this], fun h => by have := x2 (by simpa [did] using h); simp [did, this], fun h => by have := x3 (by simpa [did] using h); simp [did, this], fun h => by have := x4 (by simpa [did] using h); simp [did, this], fun h => by have := x5 (by simpa [did] using h); simp [did, this], fun _ => by have y15 := x5 (by simp [hdep]); simp [did, hdep, y15], fun h => by have := x7 (by simpa [did] using h); simp [did, this], fun h => by have := x8 (by simpa [did] using h); simp [did, this], fun h => by have := x9 (by simpa [did] using h); simp [did, this], fun h => by have := x10 (by simpa [did] using h); simp [did, this], ⟨fun _ => hT, fun h => by simp [did, hl] at h⟩⟩
            · have hl : d 20 = false := by
                cases h : d 20
                · rfl
                · have := x10 h; simp [hd] at this
              replace hT := hT.1 hl
              have g11 := h11 (by simp [hdep])
              have g16 := h16 (by simp [hdep])
              unfold OpSteps
              simp [go_sem, evS, g11, g16, wz, wz2]
              exact ⟨fun h => by simpa [sput] using h0 (by simpa [did] using h), fun h => by simpa [sput] using h1 (by simpa [did] using h), fun h => by simpa [sput] using h2 (by simpa [did] using h), fun h => by simpa [sput] using h3 (by simpa [did] using h), fun h => by simpa [sput] using h4 (by simpa [did] using h), fun h => by simpa [sput] using h5 (by simpa [did] using h), fun h => by simpa [sput] using h6 (by simpa [did] using h), fun h => by simpa [sput] using h7 (by simpa [did] using h), fun h => by simpa [sput] using h8 (by simpa [did] using h), fun h => by simpa [sput] using h9 (by simpa [did] using h), fun h => by simpa [sput] using h10 (by simpa [did] using h), fun h => by simpa [sput] using h11 (by simpa [did] using h), fun h => by simpa [sput] using h12 (by simpa [did] using h), fun h => by simpa [sput] using h13 (by simpa [did] using h), fun h => by simpa [sput] using h14 (by simpa [did] using h), fun h => by simpa [sput] using h15 (by simpa [did] using h), fun h => by simpa [sput] using h16 (by simpa [did] using h), fun _ => by simp [sput], fun h => by simpa [sput] using h18 (by simpa [did] using h), fun h => by simpa [sput] using h19 (by simpa [did] using h), fun h => by simpa [sput] using h20 (by simpa [did] using h), fun h => by have := x0 (by simpa [did] using h); simp [did, this], fun h => by have := x1 (by simpa [did] using h); simp [did, this], fun h => by have := x2 (by simpa [did] using h); simp [did, this], fun h => by have := x3 (by simpa [did] using h); simp [did, this], fun h => by have := x4 (by simpa [did] using h); simp [did, this], fun h => by have := x5 (by simpa [did] using h); simp [did, this], fun h => by have := x6 (by simpa [did] using h); simp [did, this], fun _ => by have y11 := x3 (by simp [hdep]); have y16 := x6 (by simp [hdep]); simp [did, hdep, y11, y16], fun h => by have := x8 (by simpa [did] using h); simp [did, this], fun h => by have := x9 (by simpa [did] using h); simp [did, this], fun h => by have := x10 (by simpa [did] using h); simp [did, this], ⟨fun _ => hT, fun h => by simp [did, hl] at h⟩⟩
            · have hl : d 20 = false := by
                cases h : d 20
                · rfl
                · have := x10 h; simp [hd] at this
              replace hT := hT.1 hl
              have g17 := h17 (by simp [hdep])
              unfold OpSteps
              simp [go_sem, evS, g17]
              refine (HBd.out zs zf hzf.out W).mono ?_
              rintro e W' ⟨rfl, rfl⟩
              refine ⟨_, rfl, ?_⟩
              exact ⟨fun h => by simpa [sput] using h0 (by simpa [did] using h), fun h => by simpa [sput] using h1 (by simpa [did] using h), fun h => by simpa [sput] using h2 (by simpa [did] using h), fun h => by simpa [sput] using h3 (by simpa [did] using h), fun h => by simpa [sput] using h4 (by simpa [did] using h), fun h => by simpa [sput] using h5 (by simpa [did] using h), fun h => by simpa [sput] using h6 (by simpa [did] using h), fun h => by simpa [sput] using h7 (by simpa [did] using h), fun h => by simpa [sput] using h8 (by simpa [did] using h), fun h => by simpa [sput] using h9 (by simpa [did] using h), fun h => by simpa [sput] using h10 (by simpa [did] using h), fun h => by simpa [sput] using h11 (by simpa [did] using h), fun h => by simpa [sput] using h12 (by simpa [did] using h), fun h => by simpa [sput] using h13 (by simpa [did] using h), fun h => by simpa [sput] using h14 (by simpa [did] using h), fun h => by simpa [sput] using h15 (by simpa [did] using h), fun h => by simpa [sput] using h16 (by simpa [did] using h), fun h => by simpa [sput] using h17 (by simpa [did] using h), fun _ => by simp [sput], fun h => by simpa [sput] using h19 (by simpa [did] using h), fun h => by simpa [sput] using h20 (by simpa [did] using h), fun h => by have := x0 (by simpa [did] using h); simp [did, this], fun h => by have := x1 (by simpa [did] using h); simp [did, this], fun h => by have := x2 (by simpa [did] using h); simp [did, this], fun h => by have := x3 (by simpa [did] using h); simp [did, this], fun h => by have := x4 (by simpa [did] using h); simp [did, this], fun h => by have := x5 (by simpa [did] using h); simp [did, this], fun h => by have := x6 (by simpa [did] using h); simp [did, this], fun h => by have := x7 (by simpa [did] using h); simp [did, this], fun _ => by have y17 := x7 (by simp [hdep]); simp [did, hdep, y17], fun h => by have := x9 (by simpa [did] using h); simp [did, this], fun h => by have := x10 (by simpa [did] using h); simp [did, this], ⟨fun _ => hT, fun h => by simp [did, hl] at h⟩⟩
            · have hl : d 20 = false := by
                cases h : d 20
                · rfl
                · have := x10 h; simp [hd] at this
              replace hT := hT.1 hl
              have g6 := h6 (by simp [hdep])
              have g18 := h18 (by simp [hdep])
              unfold OpSteps
              simp [go_sem, evS, g6, g18]
              refine (HSc.out W).mono ?_
              rintro e W' ⟨rfl, rfl⟩
              refine ⟨_, rfl, ?_⟩
              exact ⟨fun h => by simpa [sput] using h0 (by simpa [did] using h), fun h => by simpa [sput] using h1 (by simpa [did] using h), fun h => by simpa [sput] using h2 (by simpa [did] using h), fun h => by simpa [sput] using h3 (by simpa [did] using h), fun h => by simpa [sput] using h4 (by simpa [did] using h), fun h => by simpa [sput] using h5 (by simpa [did] using h), fun h => by simpa [sput] using h6 (by simpa [did] using h), fun h => by simpa [sput] using h7 (by simpa [did] using h), fun h => by simpa [sput] using h8 (by simpa [did] using h), fun h => by simpa [sput] using h9 (by simpa [did] using h), fun h => by simpa [sput] using h10 (by simpa [did] using h), fun h => by simpa [sput] using h11 (by simpa [did] using h), fun h => by simpa [sput] using h12 (by simpa [did] using h), fun h => by simpa [sput] using h13 (by simpa [did] using h), fun h => by simpa [sput] using h14 (by simpa [did] using h), fun h => by simpa [sput] using h15 (by simpa [did] using h), fun h => by simpa [sput] using h16 (by simpa [did] using h), fun h => by simpa [sput] using h17 (by simpa [did] using h), fun h => by simpa [sput] using h18 (by simpa [did] using h), fun _ => by simp [sput], fun h => by simpa [sput] using h20 (by simpa [did] using h), fun h => by have := x0 (by simpa [did] using h); simp [did, this], fun h => by have := x1 (by simpa [did] using h); simp [did, this], fun h => by have := x2 (by simpa [did] using h); simp [did, this], fun h => by have := x3 (by simpa [did] using h); simp [did, this], fun h => by have := x4 (by simpa [did] using h); simp [did, this], fun h => by have := x5 (by simpa [did] using h); simp [did, this], fun h => by have := x6 (by simpa [did] using h); simp [did, this], fun h => by have := x7 (by simpa [did] using h); simp [did, this], fun h => by have := x8 (by simpa [did] using h); simp [did, this], fun _ => by have y6 := x0 (by simp [hdep]); have y18 := x8 (by simp [hdep]); simp [did, hdep, y6, y18], fun h => by have := x10 (by simpa [did] using h); simp [did, this], ⟨fun _ => hT, fun h => by simp [did, hl] at h⟩⟩
            · have g0 := h0 (by simp [hdep])
              have g1 := h1 (by simp [hdep])
              have g2 := h2 (by simp [hdep])
              have g19 := h19 (by simp [hdep])
              unfold OpSteps
              replace hT := hT.1 hd
              simp [go_sem, evS, g0, g1, g2, g19]
              refine (HStO.out W (Fl.scale m0 zf) (HOw.out.nxt hT)).mono ?_
              rintro e W' ⟨rfl, ho, hOn⟩
              refine ⟨_, rfl, ?_⟩
              exact ⟨fun h => by simpa [sput] using h0 (by simpa [did] using h), fun h => by simpa [sput] using h1 (by simpa [did] using h), fun h => by simpa [sput] using h2 (by simpa [did] using h), fun h => by simpa [sput] using h3 (by simpa [did] using h), fun h => by simpa [sput] using h4 (by simpa [did] using h), fun h => by simpa [sput] using h5 (by simpa [did] using h), fun h => by simpa [sput] using h6 (by simpa [did] using h), fun h => by simpa [sput] using h7 (by simpa [did] using h), fun h => by simpa [sput] using h8 (by simpa [did] using h), fun h => by simpa [sput] using h9 (by simpa [did] using h), fun h => by simpa [sput] using h10 (by simpa [did] using h), fun h => by simpa [sput] using h11 (by simpa [did] using h), fun h => by simpa [sput] using h12 (by simpa [did] using h), fun h => by simpa [sput] using h13 (by simpa [did] using h), fun h => by simpa [sput] using h14 (by simpa [did] using h), fun h => by simpa [sput] using h15 (by simpa [did] using h), fun h => by simpa [sput] using h16 (by simpa [did] using h), fun h => by simpa [sput] using h17 (by simpa [did] using h), fun h => by simpa [sput] using h18 (by simpa [did] using h), fun h => by simpa [sput] using h19 (by simpa [did] using h), fun _ => by simp [sput], fun h => by have := x0 (by simpa [did] using h); simp [did, this], fun h => by have := x1 (by simpa [did] using h); simp [did, this], fun h => by have := x2 (by simpa [did] using h); simp [did, this], fun h => by have := x3 (by simpa [did] using h); simp [did, this], fun h => by have := x4 (by simpa [did] using h); simp [did, this], fun h => by have := x5 (by simpa [did] using h); simp [did, this], fun h => by have := x6 (by simpa [did] using h); simp [did, this], fun h => by have := x7 (by simpa [did] using h); simp [did, this], fun h => by have := x8 (by simpa [did] using h); simp [did, this], fun h => by have := x9 (by simpa [did] using h); simp [did, this], fun _ => by have y19 := x9 (by simp [hdep]); simp [did, hdep, y19], ⟨fun h => by simp [did] at h, fun _ => ⟨W, (Fl.scale m0 zf), hT, HVal.out, ho, hOn⟩⟩⟩
          intro d s W hJ hd
          obtain ⟨h0, h1, h2, h3, h4, h5, h6, h7, h8, h9, h10, h11, h12, h13, h14, h15, h16, h17, h18, h19, h20, x0, x1, x2, x3, x4, x5, x6, x7, x8, x9, x10, hT⟩ := hJ
          obtain ⟨W', r9, hbw, hr, ho, hOn⟩ := hT.2 (hd 20 (by decide))
          have HR := Lib.hid hr
          have HO2 := Lib.hid ho
          have HZ2 := Lib.hid (hOn.blk (by have := HNe.out; omega) (HS.out.2.2.1.nxt hbw))
          have HE2 := Lib.hid (hOn.blk (by have := HNe.out; omega) (HS.out.2.2.2.1.nxt hbw))
          have HTb2 := Lib.hid (hOn.blk (by have := HNe.out; omega) (HS.out.2.2.2.2.1.nxt hbw))
          have HB2 := Lib.hid (show Below z w W from hOn.below (by have h := HS.out.2.2.2.2.2; rw [← Hz.out] at h ⊢; exact below_nx h hbw) (by have := HS.out.2.2.1.lt; have := hbw.size; omega) (by have := HNe.out; omega))
          clear h0 h1 h2 h3 h4 h5 h6 h7 h8 h9 h10 h11 h12 h13 h14 h15 h16 h17 h18 h19 h20 x0 x1 x2 x3 x4 x5 x6 x7 x8 x9 x10 hT hd hbw hr ho hOn
          simp [setAll]
          generalize s 24 = s24
          generalize s 25 = s25
          generalize s 26 = s26
          generalize s 27 = s27
          generalize s 28 = s28
          generalize s 29 = s29
          generalize s 30 = s30
          generalize s 31 = s31
          generalize s 32 = s32
          generalize s 33 = s33
          generalize s 34 = s34
          generalize s 35 = s35
          generalize s 36 = s36
          generalize s 37 = s37
          generalize s 38 = s38
          generalize s 39 = s39
          generalize s 40 = s40
          generalize s 41 = s41
          generalize s 42 = s42
          generalize s 43 = s43
          generalize s 44 = s44
          generalize W = w9 at *
          go_wp2_with fail
          go_roundw
          case rel => exact ⟨j1 + 1, T1.set P r9, by omega, by go_num, Lib.hid ⟨HSt.out r9 HR.out, HO2.out, HZ2.out, HE2.out, HTb2.out, HB2.out⟩⟩
          case measure => simp [intOf]; omega
        · obtain rfl : j1 = C := by omega
          have hbb : ¬ (j1 : Int) < (j1 : Int) := by omega
          go_wp2_with fail
          go_roundw
          case rel => exact ⟨i1 + 1, T1, by omega, by go_num, Lib.hid ⟨HS.out.1.next, HS.out.2⟩⟩
          case measure => simp [intOf]; omega
    · obtain rfl : R = i1 := by omega
      have hbb : ¬ (R : Int) < (R : Int) := by omega
      obtain ⟨t0, t1, t2⟩ := cells3v HS.out.2.2.2.2.1
      obtain ⟨z0, z1, z2⟩ := cells3v HS.out.2.2.2.1
      obtain ⟨y0, y1, y2⟩ := frozen3v HS.out.2.2.2.1
      have HSt := Lib.hid (HS.out.2.2.2.1.store3v (.int .i64 (R : Int)) (.int .i64 (C : Int)) (.slice (some ⟨go, 0, none⟩) N co))
      have HBe := Lib.hid (below3g HS.out.2.2.2.2.2 (Nat.le_succ z) (.int .i64 (R : Int)) (.int .i64 (C : Int)) (.slice (some ⟨go, 0, none⟩) N co))
      have HKe := Lib.hid (own3g HS.out.2.1 (show go ≠ z + 1 by have := HNe.out; omega) (.int .i64 (R : Int)) (.int .i64 (C : Int)) (.slice (some ⟨go, 0, none⟩) N co))
      go_wp2_with fail
      obtain ⟨j0, j1, j2⟩ := cells3v HSt.out
      exact bodyPost_ret (v := .agg #[.int .i64 (R : Int), .int .i64 (C : Int), .slice (some ⟨go, 0, none⟩) N co]) (by simp [results, Try.results18, go_sem, j0, j1, j2]) rfl ⟨go, co, T1, rfl, HKe.out, HS.out.1.1, HS.out.1.done, by have := Hz.out; have := HNe.out; omega, by rw [Hz.out]; exact HBe.out⟩
end Go.Proofs.Ytelpdbkkefpjhaa
