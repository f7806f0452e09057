/-
Trsm: Solve. Conditions: as each says.
-/
import Derived.Test.YtcdhpoikppfjkaaWaap
import Derived.Test.YtcdhpoikppfjkaaWaaq
set_option linter.unusedVariables false
set_option linter.unusedSimpArgs false
set_option linter.unnecessarySimpa false
namespace Go.Proofs.Ytcdhpoikppfjkaa
open Go.RowKit
attribute [local go_sem ↓] Go.wp_at_zero Go.wp_at_succ

theorem run_buildS (kd : Int) (y0 y1 y2 y3 y4 z0 z1 z2 z3 z4 : Value) (w : World) : (Instr.build 45 #[(0, .int .i64 kd), (1, .agg #[y0, y1, y2, y3, y4]), (2, .agg #[z0, z1, z2, z3, z4])]).run Try.prog w = .ok (.agg #[.int .i64 kd, y0, y1, y2, y3, y4, z0, z1, z2, z3, z4]) w := by kernel_rfl
attribute [local go_sem high] run_buildS
/-- How far the blocks have come. -/
def tsBd (kd : Nat) (C : List Int) (m q : Nat) : Nat := if kd = 1 then bs C q else bs C (m - q)
theorem tsBd_zero {kd m N : Nat} {C : List Int} (h : CutF C m N) : tsBd kd C m 0 = ts0 kd N := by
  unfold tsBd ts0
  split
  · exact h.zero
  · rw [Nat.sub_zero]; exact h.last
theorem tsBd_end {kd m N : Nat} {C : List Int} (h : CutF C m N) : tsBd kd C m m = ts9 kd N := by
  unfold tsBd ts9
  split
  · exact h.last
  · rw [Nat.sub_self]; exact h.zero
theorem ts_blk {kd m N q : Nat} {C : List Int} (h : CutF C m N) (hk : kd = 1 ∨ kd = 2) (hq : q < m) : ∃ b s : Nat, tsP kd C m q = ((b : Int), (s : Int)) ∧ 1 ≤ s ∧ b + s ≤ N ∧ tsA kd b s = tsBd kd C m q ∧ tsB kd b s = tsBd kd C m (q + 1) := by
  rcases hk with rfl | rfl
  · have h1 := h.lt q hq
    have h2 := h.le (q + 1)
    refine ⟨bs C q, bs C (q + 1) - bs C q, ?_, by omega, by omega, rfl, ?_⟩
    · show (C.getD q 0, C.getD (q + 1) 0 - C.getD q 0) = _
      rw [h.dd hq, h.cell]
    · show bs C q + (bs C (q + 1) - bs C q) = bs C (q + 1)
      omega
  · have h1 := h.lt (m - 1 - q) (by omega)
    have h2 := h.le (m - 1 - q + 1)
    have e1 : m - 1 - q + 1 = m - q := by omega
    have e2 : m - (q + 1) = m - 1 - q := by omega
    refine ⟨bs C (m - 1 - q), bs C (m - 1 - q + 1) - bs C (m - 1 - q), ?_, by omega, by omega, ?_, ?_⟩
    · show (C.getD (m - 1 - q) 0, C.getD (m - 1 - q + 1) 0 - C.getD (m - 1 - q) 0) = _
      rw [h.dd (by omega), h.cell]
    · show bs C (m - 1 - q) + (bs C (m - 1 - q + 1) - bs C (m - 1 - q)) = bs C (m - q)
      rw [← e1]; omega
    · show bs C (m - 1 - q) = bs C (m - (q + 1))
      rw [e2]
/-- Within a block, column by column. -/
def tsI (kd R : Nat) (E : Nat → Nat → Nat → Nat) (F : Nat → Nat → Nat) (B B' j j' i : Nat) : Nat := if j' < j then tsY kd R (E j') (F j') B' i else tsY kd R (E j') (F j') B i
def tsN (kd R : Nat) (E : Nat → Nat → Nat → Nat) (F : Nat → Nat → Nat) (B B' b s j j' i : Nat) : Nat := if j' = j then tsM kd R (E j') (F j') b s (b + s) i else tsI kd R E F B B' j j' i
theorem tsstep_solve {w0 : World} {A : Option Addr} {nm cm o R L : Nat} {f : Nat → Nat → Nat} {g n c : Nat} {l : List Nat} {o2 C L2 : Nat} (H : TsH w0 A nm cm o R L f g n c l o2 C L2) (kd : Nat) (hk : kd = 1 ∨ kd = 2) (j b s : Nat) (hj : j < C) (hb : b + s ≤ R) {x : Nat → Nat → Nat} {E : Nat → Nat → Nat → Nat} {F : Nat → Nat → Nat} (hS : ∀ j, TrS kd R (trV kd f) (x j) (E j) (F j)) (hz : kd = 2 → tsHZ f R = false) {B' : Nat} {W : World} (hW : TsW A o R L f g l o2 C L2 (tsI kd R E F (tsA kd b s) B' j) W) (hc : Chg [g] w0 W) :
    Calls Try.prog 19 #[.agg #[.int .i64 (kd : Int), .slice A nm cm, .int .i64 (o : Int), .int .i64 (R : Int), .int .i64 (R : Int), .int .i64 (L : Int), .slice (some ⟨g, 0, none⟩) n c, .int .i64 (o2 : Int), .int .i64 (R : Int), .int .i64 (C : Int), .int .i64 (L2 : Int)], .agg #[.int .i64 (b : Int), .int .i64 (s : Int)], .int .i64 j] W fun e w' => e = .returned (.tuple #[]) ∧ TsW A o R L f g l o2 C L2 (tsN kd R E F (tsA kd b s) B' b s j) w' ∧ Chg [g] W w' :=
  (tssolve_nat H kd hk j b s hj hb (hS j) hz hW hc (fun p hp => by
    unfold tsI
    rw [if_neg (by omega)]
    exact tsY_at hk hp)).mono fun e w' ⟨e1, e2, e3⟩ => ⟨e1, e2.congr (fun j' hj' i hi => by
      unfold tsZs tsN
      by_cases h : j' = j
      · subst h
        have := tsM_solved (n := R) (E := E j') (F := F j') hk (b := b) (s := s) (p := i)
        rw [if_pos rfl, ← this]
        have e9 : tsI kd R E F (tsA kd b s) B' j' j' i = tsY kd R (E j') (F j') (tsA kd b s) i := by unfold tsI; rw [if_neg (by omega)]
        rw [e9]
        simp only [true_and]
      · rw [if_neg h, if_neg (fun h9 => h h9.1)]), e3⟩
theorem tsstep_take {w0 : World} {A : Option Addr} {nm cm o R L : Nat} {f : Nat → Nat → Nat} {g n c : Nat} {l : List Nat} {o2 C L2 : Nat} (H : TsH w0 A nm cm o R L f g n c l o2 C L2) (kd : Nat) (hk : kd = 1 ∨ kd = 2) (j b s : Nat) (hj : j < C) (hb : b + s ≤ R) {x : Nat → Nat → Nat} {E : Nat → Nat → Nat → Nat} {F : Nat → Nat → Nat} (hS : ∀ j, TrS kd R (trV kd f) (x j) (E j) (F j)) {B : Nat} {W : World} (hW : TsW A o R L f g l o2 C L2 (tsN kd R E F B (tsB kd b s) b s j) W) (hc : Chg [g] w0 W) :
    Calls Try.prog 20 #[.agg #[.int .i64 (kd : Int), .slice A nm cm, .int .i64 (o : Int), .int .i64 (R : Int), .int .i64 (R : Int), .int .i64 (L : Int), .slice (some ⟨g, 0, none⟩) n c, .int .i64 (o2 : Int), .int .i64 (R : Int), .int .i64 (C : Int), .int .i64 (L2 : Int)], .agg #[.int .i64 (b : Int), .int .i64 (s : Int)], .int .i64 j] W fun e w' => e = .returned (.tuple #[]) ∧ TsW A o R L f g l o2 C L2 (tsI kd R E F B (tsB kd b s) (j + 1)) w' ∧ Chg [g] W w' := by
  have hN : ∀ j' i, tsN kd R E F B (tsB kd b s) b s j j' i = if j' = j then tsM kd R (E j') (F j') b s (b + s) i else tsI kd R E F B (tsB kd b s) j j' i := fun _ _ => rfl
  have hI : ∀ j', j' ≠ j → ∀ i, tsI kd R E F B (tsB kd b s) j j' i = tsI kd R E F B (tsB kd b s) (j + 1) j' i := fun j' h i => by
    unfold tsI
    by_cases h1 : j' < j
    · rw [if_pos h1, if_pos (by omega)]
    · rw [if_neg h1, if_neg (by omega)]
  have hJ : ∀ i, tsI kd R E F B (tsB kd b s) (j + 1) j i = tsY kd R (E j) (F j) (tsB kd b s) i := fun i => by unfold tsI; rw [if_pos (by omega)]
  rcases hk with rfl | rfl
  · refine (tstake_low H j b s hj hb hW hc).mono fun e w' ⟨e1, e2, e3⟩ => ⟨e1, e2.congr (fun j' hj' i hi => ?_), e3⟩
    unfold tsZt
    by_cases h : j' = j
    · subst h
      have h9 := tsM_low (hS j') (b := b) (s := s) hi
      rw [hJ, ← h9]
      simp only [true_and, hN, if_true]
    · rw [if_neg (fun h9 => h h9.1), hN, if_neg h, hI j' h]
  · refine (tstake_up H j b s hj hb (hS j) hW hc (fun i hi => by rw [hN, if_pos rfl])).mono fun e w' ⟨e1, e2, e3⟩ => ⟨e1, e2.congr (fun j' hj' i hi => ?_), e3⟩
    by_cases h : j' = j
    · subst h
      rw [if_pos rfl, hJ, tsM_done]
    · rw [if_neg h, hN, if_neg h, hI j' h]
/-- What lies about: the system, its right sides' box, the blocks. -/
def TsA (zq zx : Nat) (P X : Array Value) (A : Option Addr) (B : List Value) (W : World) : Prop := Blk W zq 45 P ∧ Blk W zx 24 X ∧ Row W A B
theorem TsA.nxt {zq zx : Nat} {P X : Array Value} {A : Option Addr} {B : List Value} {W W' : World} (h : TsA zq zx P X A B W) (hb : Below W.heap.size W W') : TsA zq zx P X A B W' := ⟨h.1.nxt hb, h.2.1.nxt hb, h.2.2.below hb⟩
theorem TsA.chg {g zq zx : Nat} {P X : Array Value} {A : Option Addr} {B : List Value} {W W' : World} (h : TsA zq zx P X A B W) (h1 : g < zq) (h2 : g < zx) (h3 : ∀ b x, A = some ⟨b, x, none⟩ → g < b) (hc : Chg [g] W W') : TsA zq zx P X A B W' :=
  ⟨hc.blk (by simp; omega) h.1, hc.blk (by simp; omega) h.2.1, hc.row (fun b x e => by have := h3 b x e; simp; omega) h.2.2⟩

set_option maxRecDepth 100000 in
set_option maxHeartbeats 2000000 in
theorem tsSolve_err (kd : Int) (A : Option Addr) (n c : Nat) (o r k ld : Int) (A2 : Option Addr) (n2 c2 : Nat) (o2 r2 k2 ld2 : Int) (size : Int) (E : Int) (w : World) (hE : E ≠ 0) (hF : ∀ W, Below w.heap.size w W → Calls Try.prog 17 #[.agg #[.int .i64 kd, .slice A n c, .int .i64 o, .int .i64 r, .int .i64 k, .int .i64 ld, .slice A2 n2 c2, .int .i64 o2, .int .i64 r2, .int .i64 k2, .int .i64 ld2], .int .i64 size] W fun e w' => e = .returned (.int .i64 E) ∧ Below W.heap.size W w') :
    Calls Try.prog 8 #[.int .i64 kd, .int .i64 size, mat A n c o r k ld, mat A2 n2 c2 o2 r2 k2 ld2] w fun e w' => e = .returned (.int .i64 E) ∧ Below w.heap.size w w' := by
  have HF := Lib.hid hF
  have t0 : (E != 0) = true := by simp [hE]
  clear hF
  unfold mat at *
  go_enter Try.func8, Try.ntmps8
  have HM0 := Lib.hid ((Blk.new w 24 #[.slice A n c, .int .i64 o, .int .i64 r, .int .i64 k, .int .i64 ld]).alloc (.cells #[.slice A2 n2 c2, .int .i64 o2, .int .i64 r2, .int .i64 k2, .int .i64 ld2] 24))
  have HX0 := Lib.hid (Blk.new_ (w.alloc (.cells #[.slice A n c, .int .i64 o, .int .i64 r, .int .i64 k, .int .i64 ld] 24)) 24 #[.slice A2 n2 c2, .int .i64 o2, .int .i64 r2, .int .i64 k2, .int .i64 ld2] (w.heap.size + 1) (by simp))
  have HB0 := Lib.hid (((Below.refl w.heap.size w).alloc (Nat.le_refl _) (.cells #[.slice A n c, .int .i64 o, .int .i64 r, .int .i64 k, .int .i64 ld] 24)).alloc (by simp) (.cells #[.slice A2 n2 c2, .int .i64 o2, .int .i64 r2, .int .i64 k2, .int .i64 ld2] 24))
  obtain ⟨m0, m1, m2, m3, m4⟩ := cells5 HM0.out
  obtain ⟨x0, x1, x2, x3, x4⟩ := cells5 HX0.out
  have HA0 := Lib.hid (Blk.new_ ((w.alloc (.cells #[.slice A n c, .int .i64 o, .int .i64 r, .int .i64 k, .int .i64 ld] 24)).alloc (.cells #[.slice A2 n2 c2, .int .i64 o2, .int .i64 r2, .int .i64 k2, .int .i64 ld2] 24)) 45 #[.int .i64 0, .slice none 0 0, .int .i64 0, .int .i64 0, .int .i64 0, .int .i64 0, .slice none 0 0, .int .i64 0, .int .i64 0, .int .i64 0, .int .i64 0] (w.heap.size + 1 + 1) (by simp))
  have HXa := Lib.hid (HX0.out.alloc (.cells #[.int .i64 0, .slice none 0 0, .int .i64 0, .int .i64 0, .int .i64 0, .int .i64 0, .slice none 0 0, .int .i64 0, .int .i64 0, .int .i64 0, .int .i64 0] 45))
  have HBa := Lib.hid (below_al HB0.out (o := .cells #[.int .i64 0, .slice none 0 0, .int .i64 0, .int .i64 0, .int .i64 0, .int .i64 0, .slice none 0 0, .int .i64 0, .int .i64 0, .int .i64 0, .int .i64 0] 45))
  have Hzq := Lib.hid (show w.heap.size ≤ w.heap.size + 1 + 1 by omega)
  have Hzn := Lib.hid (show w.heap.size + 1 ≠ w.heap.size + 1 + 1 by omega)
  go_wp2_with (refine wpList_store_new rfl 45 (.tmp 9) (.tmp 17) rfl (w.heap.size + 1 + 1) #[.int .i64 kd, .slice A n c, .int .i64 o, .int .i64 r, .int .i64 k, .int .i64 ld, .slice A2 n2 c2, .int .i64 o2, .int .i64 r2, .int .i64 k2, .int .i64 ld2] rfl rfl HA0.out rfl ?hi ?h1 ?_)
  case hi => kernel_rfl
  case h1 => simp [Value.oneCell']
  intro w1 hw1 hw2 hw3
  have HQ0 := Lib.hid hw1
  have HX1 := Lib.hid (hw2 _ _ _ Hzn.out HXa.out)
  have HB1 := Lib.hid (hw3 _ _ Hzq.out HBa.out)
  clear hw1 hw2 hw3 HM0 HX0 HB0 HA0 HXa HBa Hzn m0 m1 m2 m3 m4 x0 x1 x2 x3 x4
  generalize hq : w.heap.size + 1 + 1 = zq at *
  generalize hzx : w.heap.size + 1 = zx at *
  have Hzx := Lib.hid (show w.heap.size ≤ zx by omega)
  clear hq hzx
  obtain ⟨z0, z1, z2, z3, z4, z5, z6, z7, z8, z9, z10⟩ := cells11 HQ0.out
  go_wp2_with fail
  refine (HF.out _ HB1.out).mono ?_
  rintro e w2 ⟨rfl, hb⟩
  have HB2 := Lib.hid (below_nx HB1.out hb)
  have HQ1 := Lib.hid (HQ0.out.nxt hb)
  have HX2 := Lib.hid (HX1.out.nxt hb)
  clear hb HB1 HQ0 HX1 z0 z1 z2 z3 z4 z5 z6 z7 z8 z9 z10
  go_wp2_with fail
  go_ret
  exact ⟨rfl, HB2.out⟩

set_option maxRecDepth 100000 in
set_option maxHeartbeats 4000000 in
theorem tsSolve_ok {w : World} {A : Option Addr} {nm cm o R L : Nat} {f : Nat → Nat → Nat} {g n c : Nat} {l : List Nat} {o2 C L2 : Nat} (H : TsH w A nm cm o R L f g n c l o2 C L2) (kd : Nat) (hk : kd = 1 ∨ kd = 2) (S : Nat) (hS1 : 1 ≤ S) (hS2 : S < 9223372036854775808) (hR4 : R ≤ 4096) {x : Nat → Nat → Nat} {E : Nat → Nat → Nat → Nat} {F : Nat → Nat → Nat} (hS : ∀ j, TrS kd R (trV kd f) (x j) (E j) (F j)) (hz : kd = 2 → tsHZ f R = false)
    (hW : TsW A o R L f g l o2 C L2 (fun j i => x j i) w) (hF : ∀ W, Below w.heap.size w W → Calls Try.prog 17 #[.agg #[.int .i64 (kd : Int), .slice A nm cm, .int .i64 (o : Int), .int .i64 (R : Int), .int .i64 (R : Int), .int .i64 (L : Int), .slice (some ⟨g, 0, none⟩) n c, .int .i64 (o2 : Int), .int .i64 (R : Int), .int .i64 (C : Int), .int .i64 (L2 : Int)], .int .i64 (S : Int)] W fun e w' => e = .returned (.int .i64 0) ∧ Below W.heap.size W w') :
    Calls Try.prog 8 #[.int .i64 (kd : Int), .int .i64 (S : Int), mat A nm cm o R R L, mat (some ⟨g, 0, none⟩) n c o2 R C L2] w fun e w' => e = .returned (.int .i64 0) ∧ TsW A o R L f g l o2 C L2 (fun j i => F j i) w' ∧ Chg [g] w w' := by
  have HF := Lib.hid hF
  have HBl := Lib.hid (fun W => tsblocks_any kd hk A nm cm o R L R S (some ⟨g, 0, none⟩) n c o2 R C L2 W hR4 hS1 hS2)
  have HSo := Lib.hid (fun j b s (hj : j < C) (hb : b + s ≤ R) B' W hW hc => tsstep_solve H kd hk j b s hj hb hS hz (B' := B') (W := W) hW hc)
  have HTk := Lib.hid (fun j b s (hj : j < C) (hb : b + s ≤ R) B W hW hc => tsstep_take H kd hk j b s hj hb hS (B := B) (W := W) hW hc)
  have HS := Lib.hid hS
  have Hk := Lib.hid hk
  have HW0 := Lib.hid hW
  have hCb := H.hCb
  have HR4 := Lib.hid hR4
  have Hg := Lib.hid (show g < w.heap.size from by obtain ⟨y, _, h, _⟩ := hW; exact h.lt)
  clear hF hS1 hS2 hR4 hS hz hW H hk
  unfold mat at *
  go_enter Try.func8, Try.ntmps8
  have HM0 := Lib.hid ((Blk.new w 24 #[.slice A nm cm, .int .i64 (o : Int), .int .i64 (R : Int), .int .i64 (R : Int), .int .i64 (L : Int)]).alloc (.cells #[.slice (some ⟨g, 0, none⟩) n c, .int .i64 (o2 : Int), .int .i64 (R : Int), .int .i64 (C : Int), .int .i64 (L2 : Int)] 24))
  have HX0 := Lib.hid (Blk.new_ (w.alloc (.cells #[.slice A nm cm, .int .i64 (o : Int), .int .i64 (R : Int), .int .i64 (R : Int), .int .i64 (L : Int)] 24)) 24 #[.slice (some ⟨g, 0, none⟩) n c, .int .i64 (o2 : Int), .int .i64 (R : Int), .int .i64 (C : Int), .int .i64 (L2 : Int)] (w.heap.size + 1) (by simp))
  have HB0 := Lib.hid (((Below.refl w.heap.size w).alloc (Nat.le_refl _) (.cells #[.slice A nm cm, .int .i64 (o : Int), .int .i64 (R : Int), .int .i64 (R : Int), .int .i64 (L : Int)] 24)).alloc (by simp) (.cells #[.slice (some ⟨g, 0, none⟩) n c, .int .i64 (o2 : Int), .int .i64 (R : Int), .int .i64 (C : Int), .int .i64 (L2 : Int)] 24))
  obtain ⟨m0, m1, m2, m3, m4⟩ := cells5 HM0.out
  obtain ⟨x0, x1, x2, x3, x4⟩ := cells5 HX0.out
  have HA0 := Lib.hid (Blk.new_ ((w.alloc (.cells #[.slice A nm cm, .int .i64 (o : Int), .int .i64 (R : Int), .int .i64 (R : Int), .int .i64 (L : Int)] 24)).alloc (.cells #[.slice (some ⟨g, 0, none⟩) n c, .int .i64 (o2 : Int), .int .i64 (R : Int), .int .i64 (C : Int), .int .i64 (L2 : Int)] 24)) 45 #[.int .i64 0, .slice none 0 0, .int .i64 0, .int .i64 0, .int .i64 0, .int .i64 0, .slice none 0 0, .int .i64 0, .int .i64 0, .int .i64 0, .int .i64 0] (w.heap.size + 1 + 1) (by simp))
  have HXa := Lib.hid (HX0.out.alloc (.cells #[.int .i64 0, .slice none 0 0, .int .i64 0, .int .i64 0, .int .i64 0, .int .i64 0, .slice none 0 0, .int .i64 0, .int .i64 0, .int .i64 0, .int .i64 0] 45))
  have HBa := Lib.hid (below_al HB0.out (o := .cells #[.int .i64 0, .slice none 0 0, .int .i64 0, .int .i64 0, .int .i64 0, .int .i64 0, .slice none 0 0, .int .i64 0, .int .i64 0, .int .i64 0, .int .i64 0] 45))
  have Hzq := Lib.hid (show w.heap.size ≤ w.heap.size + 1 + 1 by omega)
  have Hzn := Lib.hid (show w.heap.size + 1 ≠ w.heap.size + 1 + 1 by omega)
  go_wp2_with (refine wpList_store_new rfl 45 (.tmp 9) (.tmp 17) rfl (w.heap.size + 1 + 1) #[.int .i64 (kd : Int), .slice A nm cm, .int .i64 (o : Int), .int .i64 (R : Int), .int .i64 (R : Int), .int .i64 (L : Int), .slice (some ⟨g, 0, none⟩) n c, .int .i64 (o2 : Int), .int .i64 (R : Int), .int .i64 (C : Int), .int .i64 (L2 : Int)] rfl rfl HA0.out rfl ?hi ?h1 ?_)
  case hi => kernel_rfl
  case h1 => simp [Value.oneCell']
  intro w1 hw1 hw2 hw3
  have HQ0 := Lib.hid hw1
  have HX1 := Lib.hid (hw2 _ _ _ Hzn.out HXa.out)
  have HB1 := Lib.hid (hw3 _ _ Hzq.out HBa.out)
  clear hw1 hw2 hw3 HM0 HX0 HB0 HA0 HXa HBa Hzn m0 m1 m2 m3 m4 x0 x1 x2 x3 x4
  generalize hq : w.heap.size + 1 + 1 = zq at *
  generalize hzx : w.heap.size + 1 = zx at *
  have Hzx := Lib.hid (show w.heap.size ≤ zx by omega)
  clear hq hzx
  obtain ⟨z0, z1, z2, z3, z4, z5, z6, z7, z8, z9, z10⟩ := cells11 HQ0.out
  go_wp2_with fail
  refine (HF.out _ HB1.out).mono ?_
  rintro e w2 ⟨rfl, hb⟩
  have HB2 := Lib.hid (below_nx HB1.out hb)
  have HQ1 := Lib.hid (HQ0.out.nxt hb)
  have HX2 := Lib.hid (HX1.out.nxt hb)
  clear hb HB1 HQ0 HX1 z0 z1 z2 z3 z4 z5 z6 z7 z8 z9 z10
  obtain ⟨z0, z1, z2, z3, z4, z5, z6, z7, z8, z9, z10⟩ := cells11 HQ1.out
  go_wp2_with fail
  refine (HBl.out _).mono ?_
  rintro e w3 ⟨Cs, m, Al, cl, rfl, hC, hm, hrow, hlo, hb⟩
  have HCu := Lib.hid (And.intro hC hm)
  have HA3 := Lib.hid (show TsA zq zx #[.int .i64 (kd : Int), .slice A nm cm, .int .i64 (o : Int), .int .i64 (R : Int), .int .i64 (R : Int), .int .i64 (L : Int), .slice (some ⟨g, 0, none⟩) n c, .int .i64 (o2 : Int), .int .i64 (R : Int), .int .i64 (C : Int), .int .i64 (L2 : Int)] #[.slice (some ⟨g, 0, none⟩) n c, .int .i64 (o2 : Int), .int .i64 (R : Int), .int .i64 (C : Int), .int .i64 (L2 : Int)] Al (prf (tsP kd Cs m) m) w3 from ⟨HQ1.out.nxt hb, HX2.out.nxt hb, hrow⟩)
  have Hlt := Lib.hid (show g < zq ∧ g < zx ∧ (∀ b x, Al = some ⟨b, x, none⟩ → g < b) from ⟨by have := Hg.out; have := Hzq.out; omega, by have := Hg.out; have := Hzx.out; omega, fun b x e => by have := hlo b x e; have := HB2.out.size; have := Hg.out; omega⟩)
  have HB3 := Lib.hid (below_nx HB2.out hb)
  have HT3 := Lib.hid ((HW0.out.nxt HB3.out).congr (Z' := fun j i => tsY kd R (E j) (F j) (tsBd kd Cs m 0) i) (fun j hj i hi => by rw [tsBd_zero hC, tsY_zero Hk.out (HS.out j) hi]))
  have HC3 := Lib.hid (Chg.of_below (G := [g]) HB3.out)
  clear hC hm hrow hlo hb z0 z1 z2 z3 z4 z5 z6 z7 z8 z9 z10 HQ1 HX2 HB2 HB3 HBl HF HW0
  go_wp2_with fail
  go_loopw [28] (fun v wr => ∃ q : Nat, q ≤ m ∧ v = .int .i64 (q : Int) ∧ Hid (TsW A o R L f g l o2 C L2 (fun j i => tsY kd R (E j) (F j) (tsBd kd Cs m q) i) wr ∧ Chg [g] w wr ∧ TsA zq zx #[.int .i64 (kd : Int), .slice A nm cm, .int .i64 (o : Int), .int .i64 (R : Int), .int .i64 (R : Int), .int .i64 (L : Int), .slice (some ⟨g, 0, none⟩) n c, .int .i64 (o2 : Int), .int .i64 (R : Int), .int .i64 (C : Int), .int .i64 (L2 : Int)] #[.slice (some ⟨g, 0, none⟩) n c, .int .i64 (o2 : Int), .int .i64 (R : Int), .int .i64 (C : Int), .int .i64 (L2 : Int)] Al (prf (tsP kd Cs m) m) wr)) (fun v _ => m - (intOf v).toNat)
  case atStart => exact ⟨0, Nat.zero_le _, rfl, Lib.hid ⟨HT3.out, HC3.out, HA3.out⟩⟩
  case round =>
    clear HT3 HC3 HA3
    obtain ⟨q, hq, rfl, HL⟩ := hrel
    by_cases hlt : q < m
    · have hqc : (q : Int) < (m : Int) := by omega
      have hq1 : q + 1 ≤ 1048576 := by have := HCu.out.2; have := HR4.out; omega
      obtain ⟨b9, x9, rfl, hc1, hc2⟩ := row_prf HL.out.2.2.2.2 hlt
      obtain ⟨b, s, hP, hs1, hbs, hA, hB⟩ := ts_blk HCu.out.1 Hk.out hlt
      rw [hP] at hc1 hc2
      have Hq := Lib.hid (And.intro hlt hbs)
      have HAB := Lib.hid (And.intro hA hB)
      clear hP hs1 hbs hA hB
      go_upto_region 8 with fail
      clear hc1 hc2
      have HJn := Lib.hid (Blk.new wr 49 #[.int .i64 (b : Int), .int .i64 (s : Int)])
      have HTn := Lib.hid ((HL.out.1.nxt ((Below.refl _ _).alloc (Nat.le_refl _) (.cells #[.int .i64 (b : Int), .int .i64 (s : Int)] 49))).congr (Z' := tsI kd R E F (tsA kd b s) (tsB kd b s) 0) (fun j hj i hi => by
        unfold tsI
        rw [if_neg (by omega), HAB.out.1]))
      have HCn := Lib.hid (HL.out.2.1.nxt ((Below.refl _ _).alloc (Nat.le_refl _) (.cells #[.int .i64 (b : Int), .int .i64 (s : Int)] 49)))
      have HAn := Lib.hid (HL.out.2.2.nxt ((Below.refl _ _).alloc (Nat.le_refl _) (.cells #[.int .i64 (b : Int), .int .i64 (s : Int)] 49)))
      have Hzc := Lib.hid (show g < wr.heap.size from by have := HL.out.2.2.1.lt; have := Hlt.out.1; omega)
      clear HL
      generalize hz9 : wr.heap.size = zc at *
      generalize wr.alloc (.cells #[.int .i64 (b : Int), .int .i64 (s : Int)] 49) = wb at *
      clear hz9
      obtain ⟨x0, x1, x2, x3, x4⟩ := cells5 HAn.out.2.1
      go_wp2_with fail
      clear x0 x1 x2 x3 x4
      go_loopw [34] (fun v wr => ∃ j : Nat, j ≤ C ∧ v = .int .i64 (j : Int) ∧ Hid (TsW A o R L f g l o2 C L2 (tsI kd R E F (tsA kd b s) (tsB kd b s) j) wr ∧ Chg [g] w wr ∧ TsA zq zx #[.int .i64 (kd : Int), .slice A nm cm, .int .i64 (o : Int), .int .i64 (R : Int), .int .i64 (R : Int), .int .i64 (L : Int), .slice (some ⟨g, 0, none⟩) n c, .int .i64 (o2 : Int), .int .i64 (R : Int), .int .i64 (C : Int), .int .i64 (L2 : Int)] #[.slice (some ⟨g, 0, none⟩) n c, .int .i64 (o2 : Int), .int .i64 (R : Int), .int .i64 (C : Int), .int .i64 (L2 : Int)] (some ⟨b9, x9, none⟩) (prf (tsP kd Cs m) m) wr ∧ Blk wr zc 49 #[.int .i64 (b : Int), .int .i64 (s : Int)])) (fun v _ => C - (intOf v).toNat)
      case atStart => exact ⟨0, Nat.zero_le _, rfl, Lib.hid ⟨HTn.out, HCn.out, HAn.out, HJn.out⟩⟩
      case round =>
        clear HTn HCn HAn HJn
        obtain ⟨j, hj, rfl, HI⟩ := hrel
        by_cases hlj : j < C
        · have hjc : (j : Int) < (C : Int) := by omega
          have hj1 : j + 1 ≤ 1048576 := by omega
          have Hj := Lib.hid hlj
          have HS9 := Lib.hid (HSo.out j b s hlj Hq.out.2 (tsB kd b s) _ HI.out.1 HI.out.2.1)
          have HA9 := Lib.hid HI.out.2.2.1
          have HJ9 := Lib.hid HI.out.2.2.2
          have HC9 := Lib.hid HI.out.2.1
          clear HI
          obtain ⟨z0, z1, z2, z3, z4, z5, z6, z7, z8, z9, z10⟩ := cells11 HA9.out.1
          obtain ⟨j0, j1⟩ := cells2j HJ9.out
          go_wp2_with fail
          refine HS9.out.mono ?_
          rintro e wa ⟨rfl, h1, h2⟩
          have HT9 := Lib.hid (HTk.out j b s hlj Hq.out.2 (tsA kd b s) _ h1 (HC9.out.trans h2))
          have HAa := Lib.hid (HA9.out.chg Hlt.out.1 Hlt.out.2.1 Hlt.out.2.2 h2)
          have HJa := Lib.hid (h2.blk (by have := Hzc.out; simp; omega) HJ9.out)
          have HCa := Lib.hid (HC9.out.trans h2)
          clear h1 h2 HS9 HA9 HJ9 HC9 z0 z1 z2 z3 z4 z5 z6 z7 z8 z9 z10 j0 j1
          obtain ⟨z0, z1, z2, z3, z4, z5, z6, z7, z8, z9, z10⟩ := cells11 HAa.out.1
          obtain ⟨j0, j1⟩ := cells2j HJa.out
          go_wp2_with fail
          refine HT9.out.mono ?_
          rintro e wc ⟨rfl, h1, h2⟩
          have HE := Lib.hid (show TsW A o R L f g l o2 C L2 (tsI kd R E F (tsA kd b s) (tsB kd b s) (j + 1)) wc ∧ Chg [g] w wc ∧ TsA zq zx _ _ _ _ wc ∧ Blk wc zc 49 _ from ⟨h1, HCa.out.trans h2, HAa.out.chg Hlt.out.1 Hlt.out.2.1 Hlt.out.2.2 h2, h2.blk (by have := Hzc.out; simp; omega) HJa.out⟩)
          clear h1 h2 HT9 HAa HJa HCa z0 z1 z2 z3 z4 z5 z6 z7 z8 z9 z10 j0 j1
          go_wp2_with fail
          go_roundw
          case rel => exact ⟨j + 1, by omega, by go_num, HE⟩
          case measure => simp [intOf]; omega
        · obtain rfl : j = C := by omega
          have hjc : ¬ (j : Int) < (j : Int) := by omega
          have HE := Lib.hid (show TsW A o R L f g l o2 j L2 (fun j i => tsY kd R (E j) (F j) (tsBd kd Cs m (q + 1)) i) wr ∧ Chg [g] w wr ∧ TsA zq zx _ _ _ _ wr from ⟨HI.out.1.congr (fun j' hj' i hi => by
            unfold tsI
            rw [if_pos hj', HAB.out.2]), HI.out.2.1, HI.out.2.2.1⟩)
          clear HI
          go_wp2_with fail
          go_roundw
          case rel => exact ⟨q + 1, by have := Hq.out.1; omega, by go_num, HE⟩
          case measure => have := Hq.out.1; simp [intOf]; omega
    · obtain rfl : q = m := by omega
      have hqc : ¬ (q : Int) < (q : Int) := by omega
      have HE := Lib.hid (show TsW A o R L f g l o2 C L2 (fun j i => F j i) wr ∧ Chg [g] w wr from ⟨HL.out.1.congr (fun j hj i hi => by rw [tsBd_end HCu.out.1, tsY_end Hk.out (HS.out j) hi]), HL.out.2.1⟩)
      clear HL
      go_wp2_with fail
      go_ret
      exact ⟨rfl, HE.out⟩
end Go.Proofs.Ytcdhpoikppfjkaa
