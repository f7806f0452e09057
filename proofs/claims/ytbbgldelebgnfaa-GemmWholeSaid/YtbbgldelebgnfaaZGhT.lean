/-
The document's Turn. Conditions: the lists have at most 2^20 numbers.
-/
import Derived.Test.YtbbgldelebgnfaaZGhC
import Derived.Test.YtbbgldelebgnfaaUaam
import Derived.Test.YtbbgldelebgnfaaUaao
import Derived.Test.YtbbgldelebgnfaaZMwC
set_option linter.unusedVariables false
set_option linter.unusedSimpArgs false
set_option linter.unnecessarySimpa false
namespace Go.Proofs.Ytbbgldelebgnfaa
open Go.RowKit
attribute [local go_sem ↓] Go.wp_at_zero Go.wp_at_succ

theorem nrat_any (R C gT N cT : Nat) (T : List Nat) (a b : Nat) (w : World) (hT : Row w (some ⟨gT, 0, none⟩) (f64s T)) (hTl : T.length = N) (hN : N < 1048576) (hab : a * C + b < N) :
    Calls Try.prog 30 #[.agg #[.int .i64 R, .int .i64 C, .slice (some ⟨gT, 0, none⟩) N cT], .int .i64 (a : Int), .int .i64 (b : Int)] w fun e w' => e = .returned (.float .f64 (T.getD (a * C + b) 0)) ∧ Below w.heap.size w w' := by
  have hPl : a * C + b < T.length := by rw [hTl]; exact hab
  obtain ⟨gb, x, hgx, _, hcell0⟩ := hT.at_ (f64s_get T _ hPl)
  injection hgx with hgx
  injection hgx with hg1 hg2
  subst hg1
  subst hg2
  have hv : T.getD (a * C + b) 0 = T[a * C + b] := getD_of_lt hPl
  rw [hv]
  have HB := Lib.hid ((Below.refl w.heap.size w).alloc (Nat.le_refl _) (.cells #[.int .i64 R, .int .i64 C, .slice (some ⟨gT, 0, none⟩) N cT] 35))
  have hcell := cell_below hcell0 HB.out
  generalize T[a * C + b] = v at *
  obtain ⟨p, hp⟩ : ∃ p, a * C = p := ⟨_, rfl⟩
  obtain ⟨P, hPd⟩ : ∃ P, p + b = P := ⟨_, rfl⟩
  have e1 : ((a : Int) * (C : Int)) = (p : Int) := by rw [← hp]; simp
  have e2 : (p : Int) + (b : Int) = (P : Int) := by rw [← hPd]; simp
  have hPN : P < N := by rw [← hPd, ← hp]; exact hab
  have HW := Lib.hid (wrap3 (o := b) (a := p) (P := P) (by omega) (by rw [← hPd, Nat.add_comm]))
  rw [hp, hPd, Nat.zero_add] at hcell
  have b1 : (P : Int) < (N : Int) := by omega
  have b0 : (0 : Int) ≤ (P : Int) := by omega
  have b2 := hPN
  clear hPl hcell0 hv hp hPd hPN hT hTl hab
  obtain ⟨u1, u2, u3, u4⟩ := HW.out
  go_enter Try.func30, Try.ntmps30
  go_wp2_with fail
  go_ret
  exact ⟨rfl, HB.out⟩
theorem nblk3g {W : World} {b p : Nat} {t : TypeId} {cs : Array Value} (h : Blk W b t cs) (hne : b ≠ p) (x0 x1 x2 : Value) : Blk (((W.setCell ⟨p, 0, none⟩ x0).setCell ⟨p, 1, none⟩ x1).setCell ⟨p, 2, none⟩ x2) b t cs := (heap_sets3 hne x0 x1 x2).trans h
theorem nown3g {W : World} {b p : Nat} {l : List Nat} (h : Own W b l) (hne : b ≠ p) (x0 x1 x2 : Value) : Own (((W.setCell ⟨p, 0, none⟩ x0).setCell ⟨p, 1, none⟩ x1).setCell ⟨p, 2, none⟩ x2) b l := by
  obtain ⟨cs, h1, h2⟩ := h
  exact ⟨cs, nblk3g h1 hne _ _ _, h2⟩
theorem nbelow3g {z : Nat} {w W : World} (h : Below z w W) {p : Nat} (hz : z ≤ p) (x0 x1 x2 : Value) : Below z w (((W.setCell ⟨p, 0, none⟩ x0).setCell ⟨p, 1, none⟩ x1).setCell ⟨p, 2, none⟩ x2) :=
  ((h.setCell (p := ⟨p, 0, none⟩) hz x0).setCell (p := ⟨p, 1, none⟩) hz x1).setCell (p := ⟨p, 2, none⟩) hz x2
theorem nrset_own (r k : Int) (g n c : Nat) (T : List Nat) (i j p v : Nat) (w : World) (hO : Own w g T) (hT : T.length = n) (hp : p < n) (hn : n < 9223372036854775808) (he : (i : Int) * k + (j : Int) = (p : Int)) (hm : I64 ((i : Int) * k)) :
    Calls Try.prog 34 #[tbl r k g n c, .int .i64 i, .int .i64 j, .float .f64 v] w fun e w' => e = .returned (.tuple #[]) ∧ Own w' g (T.set p v) ∧ Only g w w' := by
  unfold I64 at hm
  have hO2 := hO.nxt (below_one (W := w) (o := .cells #[.int .i64 r, .int .i64 k, .slice (some ⟨g, 0, none⟩) n c] 35))
  have c0 := hO2.get p (by omega)
  have f0 := hO2.frozen p
  have HS := Lib.hid ((hO.set_ p v (by omega)).nxt (below_one (o := .cells #[.int .i64 r, .int .i64 k, .slice (some ⟨g, 0, none⟩) n c] 35)))
  have HO := Lib.hid (((Only.refl g w).set_ p (.float .f64 v)).alloc_ (.cells #[.int .i64 r, .int .i64 k, .slice (some ⟨g, 0, none⟩) n c] 35))
  obtain ⟨x, hx⟩ : ∃ x, T[p]'(by omega) = x := ⟨_, rfl⟩
  rw [hx] at c0
  have w1 : IntKind.i64.wrap ((i : Int) * k) = (i : Int) * k := wrapi (by omega) (by omega)
  have w2 : IntKind.i64.wrap (p : Int) = (p : Int) := wrapi (by omega) (by omega)
  have hpn : (p : Int) < (n : Int) := by omega
  have hlt := hO.lt
  clear hx hO2 hO
  unfold tbl
  go_enter Try.func34, Try.ntmps34
  go_wp2_with fail
  go_end0
  exact ⟨rfl, HS.out, HO.out⟩
/-- A table is filled row by row. -/
def Ptbn (N : Nat) (pos : Nat → Nat → Nat) (R C : Nat) (P : Nat → Nat → Nat → Prop) (i j : Nat) (T : List Nat) : Prop :=
  T.length = N ∧ ∀ a, a < R → ∀ b, b < C → (a < i ∨ (a = i ∧ b < j)) → P a b (T.getD (pos a b) 0)
theorem Ptbn.zero {N R C : Nat} {pos : Nat → Nat → Nat} {P : Nat → Nat → Nat → Prop} {T : List Nat} (h : T.length = N) : Ptbn N pos R C P 0 0 T := ⟨h, fun a _ b _ h => by omega⟩
theorem Ptbn.next {N R C i : Nat} {pos : Nat → Nat → Nat} {P : Nat → Nat → Nat → Prop} {T : List Nat} (h : Ptbn N pos R C P i C T) : Ptbn N pos R C P (i + 1) 0 T :=
  ⟨h.1, fun a ha b hb e => h.2 a ha b hb (by omega)⟩
theorem Ptbn.done {N R C : Nat} {pos : Nat → Nat → Nat} {P : Nat → Nat → Nat → Prop} {T : List Nat} (h : Ptbn N pos R C P R 0 T) : ∀ a, a < R → ∀ b, b < C → P a b (T.getD (pos a b) 0) :=
  fun a ha b hb => h.2 a ha b hb (.inl ha)
theorem Ptbn.step {N R C i j r : Nat} {pos : Nat → Nat → Nat} {P : Nat → Nat → Nat → Prop} {T : List Nat} (h : Ptbn N pos R C P i j T) (hinj : ∀ a, a < R → ∀ b, b < C → pos a b = pos i j → a = i ∧ b = j) (hp : pos i j < N) (hr : P i j r) : Ptbn N pos R C P i (j + 1) (T.set (pos i j) r) := by
  refine ⟨by rw [List.length_set]; exact h.1, fun a ha b hb e => ?_⟩
  by_cases h1 : a = i ∧ b = j
  · obtain ⟨rfl, rfl⟩ := h1
    rw [getD_set_self (by rw [h.1]; exact hp)]
    exact hr
  · rw [getD_set_ne _ (fun e2 => h1 (hinj a ha b hb e2.symm))]
    exact h.2 a ha b hb (by omega)
theorem ntab_injg {C a b a' b' : Nat} (hb : b < C) (hb' : b' < C) (h : a * C + b = a' * C + b') : a = a' ∧ b = b' := by
  have h2 : b + a * C = b' + a' * C := by omega
  have := spots_inj hb hb' h2
  exact ⟨this.2, this.1⟩
theorem ntab_facts {R C N i j : Nat} (hN : R * C = N) (hNb : N ≤ 1048576) (hi : i < R) (hj : j < C) : i * C + j < N ∧ I64 ((i : Int) * (C : Int)) ∧ (i : Int) * (C : Int) + (j : Int) = ((i * C + j : Nat) : Int) := by
  have h1 := tab_lt hi hj
  have e : (i : Int) * (C : Int) = ((i * C : Nat) : Int) := by simp
  rw [e]
  unfold I64
  omega
/-- A number of the table has been set. -/
def SetDn (g p : Nat) (R : Nat → Prop) (T1 : List Nat) (wr W : World) : Prop := ∃ W' r, Below wr.heap.size wr W' ∧ R r ∧ Own W g (T1.set p r) ∧ Only g W' W
def TurnTn (T : List Nat) (C i j r : Nat) : Prop := r = T.getD (i * C + j) 0
/-- What a call that makes a table comes to. -/
def RetTn (r k N : Nat) (S : List Nat → Prop) (w : World) (e : Ending) (w' : World) : Prop := ∃ g T', e = .returned (tbl r k g N N) ∧ Own w' g T' ∧ T'.length = N ∧ S T' ∧ w.heap.size ≤ g ∧ Below w.heap.size w w'
set_option maxRecDepth 100000 in
set_option maxHeartbeats 2000000 in
theorem nrturn_any  (R C gT N cT : Nat) (T : List Nat) (w : World) (hT : Row w (some ⟨gT, 0, none⟩) (f64s T)) (hTl : T.length = N) (hN : R * C = N) (hNb : N < 1048576) (hRb : R < 1048576) (hCb : C < 1048576) :
    Calls Try.prog 21 #[tbl R C gT N cT] w (RetTn C R N (fun T' => ∀ i, i < R → ∀ j, j < C → (TurnTn T C) i j (T'.getD (j * R + i) 0)) w) := by
  have HI := Lib.hid (fun i j (hi : i < R) (hj : j < C) => ntab_facts hN (Nat.le_of_lt hNb) hi hj)
  have HSl := Lib.hid (fun i j (hi : i < R) (hj : j < C) => ntab_facts (R := C) (C := R) (N := N) (i := j) (j := i) (by rw [Nat.mul_comm]; exact hN) (Nat.le_of_lt hNb) hj hi)
  have HAt := Lib.hid (fun W (hB : Row W (some ⟨gT, 0, none⟩) (f64s T)) (x q : Nat) (hx : x < R) (hq : q < C) => nrat_any R C gT N cT T x q W hB hTl hNb (HI.out x q hx hq).1)
  have HCp := Lib.hid (fun W => rnew_any C R N W (by rw [Nat.mul_comm]; exact hN) (by omega) (by omega) (by omega))
  have HTr := Lib.hid hT
  have HTl := Lib.hid hTl
  have HNb := Lib.hid hNb
  clear hT hTl hN hNb
  unfold tbl at *
  go_enter Try.func21, Try.ntmps21
  have HZ0 := Lib.hid ((Blk.new w 35 #[.int .i64 (R : Int), .int .i64 (C : Int), .slice (some ⟨gT, 0, none⟩) N cT]).alloc (.cells #[.int .i64 0, .int .i64 0, .slice none 0 0] 35))
  have HE0 := Lib.hid (Blk.new_ (w.alloc (.cells #[.int .i64 (R : Int), .int .i64 (C : Int), .slice (some ⟨gT, 0, none⟩) N cT] 35)) 35 #[.int .i64 0, .int .i64 0, .slice none 0 0] (w.heap.size + 1) (by simp))
  have HB0 := Lib.hid (((Below.refl w.heap.size w).alloc (Nat.le_refl _) (.cells #[.int .i64 (R : Int), .int .i64 (C : Int), .slice (some ⟨gT, 0, none⟩) N cT] 35)).alloc (by simp) (.cells #[.int .i64 0, .int .i64 0, .slice none 0 0] 35))
  obtain ⟨d0, d1, d2⟩ := cells3v HZ0.out
  go_wp2_with fail
  refine (HCp.out _).mono ?_
  rintro e w1 ⟨go, rfl, hBk, hg, hb⟩
  have HZ1 := Lib.hid ((HZ0.out.nxt hb).alloc (.cells #[.int .i64 (C : Int), .int .i64 (R : Int), .slice (some ⟨go, 0, none⟩) N N] 35))
  have HE1 := Lib.hid ((HE0.out.nxt hb).alloc (.cells #[.int .i64 (C : Int), .int .i64 (R : Int), .slice (some ⟨go, 0, none⟩) N N] 35))
  have HT1 := Lib.hid (Blk.new w1 35 #[.int .i64 (C : Int), .int .i64 (R : Int), .slice (some ⟨go, 0, none⟩) N N])
  have HO1 := Lib.hid ((own_blk hBk).nxt (below_one (o := (.cells #[.int .i64 (C : Int), .int .i64 (R : Int), .slice (some ⟨go, 0, none⟩) N N] 35))))
  have HB1 := Lib.hid (below_al (below_nx HB0.out hb) (o := (.cells #[.int .i64 (C : Int), .int .i64 (R : Int), .slice (some ⟨go, 0, none⟩) N N] 35)))
  have hgl := (own_blk hBk).lt
  have hsz := hb.size
  have HNe0 := Lib.hid (show w.heap.size + 2 ≤ go ∧ w.heap.size + 2 ≤ w1.heap.size ∧ go < w1.heap.size from ⟨by simp at hg; omega, by simp at hsz; omega, hgl⟩)
  clear hb hBk hg hgl hsz d0 d1 d2
  obtain ⟨d0, d1, d2⟩ := cells3v HZ1.out
  go_wp2_with fail
  clear d0 d1 d2
  generalize hw2 : w1.alloc (.cells #[.int .i64 (C : Int), .int .i64 (R : Int), .slice (some ⟨go, 0, none⟩) N N] 35) = w2 at *
  generalize w1.heap.size = tb at *
  generalize hz : w.heap.size = z at *
  have HNe := HNe0
  have Hz := Lib.hid hz
  clear hw2 hz HNe0
  go_loopw [4] (fun x wr => ∃ (i1 : Nat) (T1 : List Nat), i1 ≤ R ∧ x = .int .i64 (i1 : Int) ∧ Hid (Ptbn N (fun i j => j * R + i) R C (TurnTn T C) i1 0 T1 ∧ Own wr go T1 ∧ Blk wr z 35 #[.int .i64 (R : Int), .int .i64 (C : Int), .slice (some ⟨gT, 0, none⟩) N cT] ∧ Blk wr (z + 1) 35 #[.int .i64 0, .int .i64 0, .slice none 0 0] ∧ Blk wr tb 35 #[.int .i64 (C : Int), .int .i64 (R : Int), .slice (some ⟨go, 0, none⟩) N N] ∧ Below z w wr)) (fun x _ => R - (intOf x).toNat)
  case atStart => exact ⟨0, _, Nat.zero_le _, rfl, Lib.hid ⟨Ptbn.zero (by simp), HO1.out, HZ1.out, HE1.out, HT1.out, HB1.out⟩⟩
  case round =>
    obtain ⟨i1, T1, hi1, rfl, HS⟩ := hrel
    obtain ⟨d0, d1, d2⟩ := cells3v HS.out.2.2.1
    by_cases hlt : i1 < R
    · have har2 : (i1 : Int) < (R : Int) := by omega
      have ha1 : i1 + 1 ≤ 1048576 := by omega
      go_wp2_with fail
      clear d0 d1 d2
      go_loopw [5] (fun x wr => ∃ (j1 : Nat) (T1 : List Nat), j1 ≤ C ∧ x = .int .i64 (j1 : Int) ∧ Hid (Ptbn N (fun i j => j * R + i) R C (TurnTn T C) i1 j1 T1 ∧ Own wr go T1 ∧ Blk wr z 35 #[.int .i64 (R : Int), .int .i64 (C : Int), .slice (some ⟨gT, 0, none⟩) N cT] ∧ Blk wr (z + 1) 35 #[.int .i64 0, .int .i64 0, .slice none 0 0] ∧ Blk wr tb 35 #[.int .i64 (C : Int), .int .i64 (R : Int), .slice (some ⟨go, 0, none⟩) N N] ∧ Below z w wr)) (fun x _ => C - (intOf x).toNat)
      case atStart => exact ⟨0, T1, Nat.zero_le _, rfl, HS⟩
      case round =>
        obtain ⟨j1, T1, hj1, rfl, HS⟩ := hrel
        obtain ⟨d0, d1, d2⟩ := cells3v HS.out.2.2.1
        by_cases hlt2 : j1 < C
        · have hs := HSl.out i1 j1 hlt hlt2
          obtain ⟨P, hP⟩ : ∃ P, j1 * R + i1 = P := ⟨_, rfl⟩
          have HSt0 := fun r hr => HS.out.1.step (r := r) (fun a ha b hb e => (ntab_injg ha hlt e).symm) hs.1 hr
          have hsO : ∀ W r, Own W go T1 → Calls Try.prog 34 #[.agg #[.int .i64 (C : Int), .int .i64 (R : Int), .slice (some ⟨go, 0, none⟩) N N], .int .i64 (j1 : Int), .int .i64 (i1 : Int), .float .f64 r] W fun e w' => e = .returned (.tuple #[]) ∧ Own w' go (T1.set (j1 * R + i1) r) ∧ Only go W w' := fun W r h =>
            nrset_own (C : Int) (R : Int) go N N T1 j1 i1 (j1 * R + i1) r W h HS.out.1.1 hs.1 (by have := HNb.out; omega) hs.2.2 hs.2.1
          have HAv := Lib.hid (fun W (h : Below z w W) => HAt.out W (HTr.out.below (by rw [Hz.out]; exact h)) i1 j1 hlt hlt2)
          have hval : TurnTn T C i1 j1 (T.getD (i1 * C + j1) 0) := rfl
          obtain ⟨m0, hm0⟩ : ∃ m0, T.getD (i1 * C + j1) 0 = m0 := ⟨_, rfl⟩
          rw [hm0] at HAv hval
          have HVal := Lib.hid hval
          have e5 : (j1 : Int) < (C : Int) := by omega
          have hb1 : j1 + 1 ≤ 1048576 := by omega
          simp only [hP] at hsO HSt0
          have HSt := Lib.hid HSt0
          have HStO := Lib.hid hsO
          have HWz := Lib.hid (fun W (h : Below wr.heap.size wr W) => show Below z w W from by have h2 := HS.out.2.2.2.2.2; rw [← Hz.out] at h2 ⊢; exact below_nx h2 h)
          have HZ := Lib.hid HS.out.2.2.1
          have HTb := Lib.hid HS.out.2.2.2.2.1
          have HOw := Lib.hid HS.out.2.1
          clear hs HSt0 hsO hP hm0 hval
          go_wp2_with fail
          clear d0 d1 d2
          refine wp_region_inv [23, 24, 25, 26, 27, 28, 29, 30] (fun d s W => (d 0 = true → s 23 = .agg #[.int .i64 (C : Int), .int .i64 (R : Int), .slice (some ⟨go, 0, none⟩) N N]) ∧ (d 1 = true → s 24 = .int .i64 (j1 : Int)) ∧ (d 2 = true → s 25 = .int .i64 (i1 : Int)) ∧ (d 3 = true → s 26 = .agg #[.int .i64 (R : Int), .int .i64 (C : Int), .slice (some ⟨gT, 0, none⟩) N cT]) ∧ (d 4 = true → s 27 = .int .i64 (i1 : Int)) ∧ (d 5 = true → s 28 = .int .i64 (j1 : Int)) ∧ (d 6 = true → s 29 = .float .f64 m0) ∧ (d 7 = true → s 30 = .tuple #[]) ∧ (d 6 = true → d 3 = true ∧ d 4 = true ∧ d 5 = true) ∧ (d 7 = true → d 0 = true ∧ d 1 = true ∧ d 2 = true ∧ d 3 = true ∧ d 4 = true ∧ d 5 = true ∧ d 6 = true) ∧ ((d 7 = false → Below wr.heap.size wr W) ∧ (d 7 = true → SetDn go P ((TurnTn T C) i1 j1) T1 wr W)))
            rfl (by kernel_rfl) ?_ ?_ ?_
          · exact ⟨by simp, by simp, by simp, by simp, by simp, by simp, by simp, by simp, by simp, by simp, ⟨fun _ => (Below.refl _ _).drew, fun h => by simp at h⟩⟩
          · refine ⟨?_, ?_, ?_, ?_, ?_, ?_, ?_, ?_, trivial⟩
            all_goals
              intro d s W hJ hfr hd hdep
              simp only [List.mem_cons, forall_eq_or_imp, List.not_mem_nil, false_implies, implies_true, and_true, Region.binds] at hdep
              have f1 := hfr 1 (by decide)
              have f3 := hfr 3 (by decide)
              have f4 := hfr 4 (by decide)
              have f5 := hfr 5 (by decide)
              simp at f1 f3 f4 f5 hdep
              obtain ⟨h0, h1, h2, h3, h4, h5, h6, h7, x0, x1, hT⟩ := hJ
              have hT0 := hT
            · have hl : d 7 = false := by
                cases h : d 7
                · rfl
                · have := x1 h; simp [hd] at this
              replace hT := hT.1 hl
              unfold OpSteps
              obtain ⟨p0, p1, p2⟩ := cells3v (HTb.out.below hT HTb.out.lt)
              simp [go_sem, evS, f3, p0, p1, p2]
              exact ⟨fun _ => by simp [sput], fun h => by simpa [sput] using h1 (by simpa [did] using h), fun h => by simpa [sput] using h2 (by simpa [did] using h), fun h => by simpa [sput] using h3 (by simpa [did] using h), fun h => by simpa [sput] using h4 (by simpa [did] using h), fun h => by simpa [sput] using h5 (by simpa [did] using h), fun h => by simpa [sput] using h6 (by simpa [did] using h), fun h => by simpa [sput] using h7 (by simpa [did] using h), fun h => by have := x0 (by simpa [did] using h); simp [did, this], fun h => by have := x1 (by simpa [did] using h); simp [did, this], ⟨fun _ => hT, fun h => by simp [did, hl] at h⟩⟩
            · have hl : d 7 = false := by
                cases h : d 7
                · rfl
                · have := x1 h; simp [hd] at this
              replace hT := hT.1 hl
              unfold OpSteps
              simp [go_sem, evS, f5]
              exact ⟨fun h => by simpa [sput] using h0 (by simpa [did] using h), fun _ => by simp [sput], fun h => by simpa [sput] using h2 (by simpa [did] using h), fun h => by simpa [sput] using h3 (by simpa [did] using h), fun h => by simpa [sput] using h4 (by simpa [did] using h), fun h => by simpa [sput] using h5 (by simpa [did] using h), fun h => by simpa [sput] using h6 (by simpa [did] using h), fun h => by simpa [sput] using h7 (by simpa [did] using h), fun h => by have := x0 (by simpa [did] using h); simp [did, this], fun h => by have := x1 (by simpa [did] using h); simp [did, this], ⟨fun _ => hT, fun h => by simp [did, hl] at h⟩⟩
            · have hl : d 7 = false := by
                cases h : d 7
                · rfl
                · have := x1 h; simp [hd] at this
              replace hT := hT.1 hl
              unfold OpSteps
              simp [go_sem, evS, f4]
              exact ⟨fun h => by simpa [sput] using h0 (by simpa [did] using h), fun h => by simpa [sput] using h1 (by simpa [did] using h), fun _ => by simp [sput], fun h => by simpa [sput] using h3 (by simpa [did] using h), fun h => by simpa [sput] using h4 (by simpa [did] using h), fun h => by simpa [sput] using h5 (by simpa [did] using h), fun h => by simpa [sput] using h6 (by simpa [did] using h), fun h => by simpa [sput] using h7 (by simpa [did] using h), fun h => by have := x0 (by simpa [did] using h); simp [did, this], fun h => by have := x1 (by simpa [did] using h); simp [did, this], ⟨fun _ => hT, fun h => by simp [did, hl] at h⟩⟩
            · have hl : d 7 = false := by
                cases h : d 7
                · rfl
                · have := x1 h; simp [hd] at this
              replace hT := hT.1 hl
              unfold OpSteps
              obtain ⟨p0, p1, p2⟩ := cells3v (HZ.out.below hT HZ.out.lt)
              simp [go_sem, evS, f1, p0, p1, p2]
              exact ⟨fun h => by simpa [sput] using h0 (by simpa [did] using h), fun h => by simpa [sput] using h1 (by simpa [did] using h), fun h => by simpa [sput] using h2 (by simpa [did] using h), fun _ => by simp [sput], fun h => by simpa [sput] using h4 (by simpa [did] using h), fun h => by simpa [sput] using h5 (by simpa [did] using h), fun h => by simpa [sput] using h6 (by simpa [did] using h), fun h => by simpa [sput] using h7 (by simpa [did] using h), fun h => by have := x0 (by simpa [did] using h); simp [did, this], fun h => by have := x1 (by simpa [did] using h); simp [did, this], ⟨fun _ => hT, fun h => by simp [did, hl] at h⟩⟩
            · have hl : d 7 = false := by
                cases h : d 7
                · rfl
                · have := x1 h; simp [hd] at this
              replace hT := hT.1 hl
              unfold OpSteps
              simp [go_sem, evS, f4]
              exact ⟨fun h => by simpa [sput] using h0 (by simpa [did] using h), fun h => by simpa [sput] using h1 (by simpa [did] using h), fun h => by simpa [sput] using h2 (by simpa [did] using h), fun h => by simpa [sput] using h3 (by simpa [did] using h), fun _ => by simp [sput], fun h => by simpa [sput] using h5 (by simpa [did] using h), fun h => by simpa [sput] using h6 (by simpa [did] using h), fun h => by simpa [sput] using h7 (by simpa [did] using h), fun h => by have := x0 (by simpa [did] using h); simp [did, this], fun h => by have := x1 (by simpa [did] using h); simp [did, this], ⟨fun _ => hT, fun h => by simp [did, hl] at h⟩⟩
            · have hl : d 7 = false := by
                cases h : d 7
                · rfl
                · have := x1 h; simp [hd] at this
              replace hT := hT.1 hl
              unfold OpSteps
              simp [go_sem, evS, f5]
              exact ⟨fun h => by simpa [sput] using h0 (by simpa [did] using h), fun h => by simpa [sput] using h1 (by simpa [did] using h), fun h => by simpa [sput] using h2 (by simpa [did] using h), fun h => by simpa [sput] using h3 (by simpa [did] using h), fun h => by simpa [sput] using h4 (by simpa [did] using h), fun _ => by simp [sput], fun h => by simpa [sput] using h6 (by simpa [did] using h), fun h => by simpa [sput] using h7 (by simpa [did] using h), fun h => by have := x0 (by simpa [did] using h); simp [did, this], fun h => by have := x1 (by simpa [did] using h); simp [did, this], ⟨fun _ => hT, fun h => by simp [did, hl] at h⟩⟩
            · have hl : d 7 = false := by
                cases h : d 7
                · rfl
                · have := x1 h; simp [hd] at this
              replace hT := hT.1 hl
              have g3 := h3 (by simp [hdep])
              have g4 := h4 (by simp [hdep])
              have g5 := h5 (by simp [hdep])
              unfold OpSteps
              simp [go_sem, evS, g3, g4, g5]
              refine (HAv.out W (HWz.out W hT)).mono ?_
              rintro e W' ⟨rfl, hb⟩
              refine ⟨_, rfl, ?_⟩
              exact ⟨fun h => by simpa [sput] using h0 (by simpa [did] using h), fun h => by simpa [sput] using h1 (by simpa [did] using h), fun h => by simpa [sput] using h2 (by simpa [did] using h), fun h => by simpa [sput] using h3 (by simpa [did] using h), fun h => by simpa [sput] using h4 (by simpa [did] using h), fun h => by simpa [sput] using h5 (by simpa [did] using h), fun _ => by simp [sput], fun h => by simpa [sput] using h7 (by simpa [did] using h), fun _ => by simp [did, hdep], fun h => by have := x1 (by simpa [did] using h); simp [did, this], ⟨fun _ => below_nx hT hb, fun h => by simp [did, hl] at h⟩⟩
            · have g0 := h0 (by simp [hdep])
              have g1 := h1 (by simp [hdep])
              have g2 := h2 (by simp [hdep])
              have g6 := h6 (by simp [hdep])
              unfold OpSteps
              replace hT := hT.1 hd
              simp [go_sem, evS, g0, g1, g2, g6]
              refine (HStO.out W m0 (HOw.out.nxt hT)).mono ?_
              rintro e W' ⟨rfl, ho, hOn⟩
              refine ⟨_, rfl, ?_⟩
              exact ⟨fun h => by simpa [sput] using h0 (by simpa [did] using h), fun h => by simpa [sput] using h1 (by simpa [did] using h), fun h => by simpa [sput] using h2 (by simpa [did] using h), fun h => by simpa [sput] using h3 (by simpa [did] using h), fun h => by simpa [sput] using h4 (by simpa [did] using h), fun h => by simpa [sput] using h5 (by simpa [did] using h), fun h => by simpa [sput] using h6 (by simpa [did] using h), fun _ => by simp [sput], fun h => by have := x0 (by simpa [did] using h); simp [did, this], fun _ => by have y6 := x0 (by simp [hdep]); simp [did, hdep, y6], ⟨fun h => by simp [did] at h, fun _ => ⟨W, m0, hT, HVal.out, ho, hOn⟩⟩⟩
          intro d s W hJ hd
          obtain ⟨h0, h1, h2, h3, h4, h5, h6, h7, x0, x1, hT⟩ := hJ
          obtain ⟨W', r9, hbw, hr, ho, hOn⟩ := hT.2 (hd 7 (by decide))
          have HR := Lib.hid hr
          have HO2 := Lib.hid ho
          have HZ2 := Lib.hid (hOn.blk (by have := HNe.out; omega) (HS.out.2.2.1.nxt hbw))
          have HE2 := Lib.hid (hOn.blk (by have := HNe.out; omega) (HS.out.2.2.2.1.nxt hbw))
          have HTb2 := Lib.hid (hOn.blk (by have := HNe.out; omega) (HS.out.2.2.2.2.1.nxt hbw))
          have HB2 := Lib.hid (show Below z w W from hOn.below (by have h := HS.out.2.2.2.2.2; rw [← Hz.out] at h ⊢; exact below_nx h hbw) (by have := HS.out.2.2.1.lt; have := hbw.size; omega) (by have := HNe.out; omega))
          clear h0 h1 h2 h3 h4 h5 h6 h7 x0 x1 hT hd hbw hr ho hOn
          simp [setAll]
          generalize s 23 = s23
          generalize s 24 = s24
          generalize s 25 = s25
          generalize s 26 = s26
          generalize s 27 = s27
          generalize s 28 = s28
          generalize s 29 = s29
          generalize s 30 = s30
          generalize W = w9 at *
          go_wp2_with fail
          go_roundw
          case rel => exact ⟨j1 + 1, T1.set P r9, by omega, by go_num, Lib.hid ⟨HSt.out r9 HR.out, HO2.out, HZ2.out, HE2.out, HTb2.out, HB2.out⟩⟩
          case measure => simp [intOf]; omega
        · obtain rfl : j1 = C := by omega
          have hbb : ¬ (j1 : Int) < (j1 : Int) := by omega
          go_wp2_with fail
          go_roundw
          case rel => exact ⟨i1 + 1, T1, by omega, by go_num, Lib.hid ⟨HS.out.1.next, HS.out.2⟩⟩
          case measure => simp [intOf]; omega
    · obtain rfl : R = i1 := by omega
      have hbb : ¬ (R : Int) < (R : Int) := by omega
      obtain ⟨t0, t1, t2⟩ := cells3v HS.out.2.2.2.2.1
      obtain ⟨z0, z1, z2⟩ := cells3v HS.out.2.2.2.1
      obtain ⟨y0, y1, y2⟩ := frozen3v HS.out.2.2.2.1
      have HSt := Lib.hid (HS.out.2.2.2.1.store3v (.int .i64 (C : Int)) (.int .i64 (R : Int)) (.slice (some ⟨go, 0, none⟩) N N))
      have HBe := Lib.hid (nbelow3g HS.out.2.2.2.2.2 (Nat.le_succ z) (.int .i64 (C : Int)) (.int .i64 (R : Int)) (.slice (some ⟨go, 0, none⟩) N N))
      have HKe := Lib.hid (nown3g HS.out.2.1 (show go ≠ z + 1 by have := HNe.out; omega) (.int .i64 (C : Int)) (.int .i64 (R : Int)) (.slice (some ⟨go, 0, none⟩) N N))
      go_wp2_with fail
      obtain ⟨j0, j1, j2⟩ := cells3v HSt.out
      exact bodyPost_ret (v := .agg #[.int .i64 (C : Int), .int .i64 (R : Int), .slice (some ⟨go, 0, none⟩) N N]) (by simp [results, Try.results21, go_sem, j0, j1, j2]) rfl ⟨go, T1, rfl, HKe.out, HS.out.1.1, HS.out.1.done, by have := Hz.out; have := HNe.out; omega, by rw [Hz.out]; exact HBe.out⟩
theorem ndense_turn {l M : List Nat} {o R C L : Nat} (h : Dense (colsL l o R L C) C R M) {a b : Nat} (ha : a < R) (hb : b < C) : M.getD (b + a * C) 0 = l.getD (o + a + b * L) 0 := by
  have hp : b * R + a < C * R := tab_lt hb ha
  have h2 := h.2 (b * R + a) hp
  rw [colsL_getD l o R L ha hb] at h2
  have h3 : spot C R (b * R + a) = b + a * C := by
    unfold spot
    have e1 : (b * R + a) / R = b := by rw [Nat.add_comm, Nat.add_mul_div_right _ _ (by omega), Nat.div_eq_of_lt ha]; simp
    have e2 : (b * R + a) % R = a := by rw [Nat.add_comm, Nat.add_mul_mod_self_right, Nat.mod_eq_of_lt ha]
    rw [e1, e2]
  rw [← h3]
  exact h2

/-- Turned about, with its capacity. -/
theorem geturn2_any (g R C N c : Nat) (T : List Nat) (Z : Nat → Nat → Int) (W : World) (h : TbZ R C N Z T) (hr : Row W (some ⟨g, 0, none⟩) (f64s T)) (hN : R * C = N) (hR : 1 ≤ R ∧ R ≤ 6) (hC : 1 ≤ C ∧ C ≤ 6) :
    Calls Try.prog 21 #[.agg #[.int .i64 (R : Int), .int .i64 (C : Int), .slice (some ⟨g, 0, none⟩) N c]] W fun e w' => ∃ g T', e = .returned (.agg #[.int .i64 (C : Int), .int .i64 (R : Int), .slice (some ⟨g, 0, none⟩) N N]) ∧ TbZ C R N (fun i j => Z j i) T' ∧ Own w' g T' ∧ W.heap.size ≤ g ∧ Below W.heap.size W w' := by
  have hN2 := small_le hN hR.2 hC.2
  refine (nrturn_any R C g N c T W hr h.1 hN (by omega) (by omega) (by omega)).mono ?_
  rintro e w' ⟨g, T', k1, k2, k3, k4, k5, k6⟩
  have hex : ∀ i, i < C → ∀ j, j < R → T'.getD (i * R + j) 0 = T.getD (j * C + i) 0 := fun i hi j hj => k4 j hj i hi
  refine ⟨g, T', k1, ⟨k3, ?_, fun i hi j hj => ?_⟩, k2, k5, k6⟩
  · intro v hv
    obtain ⟨x, hx, rfl⟩ := List.mem_iff_getElem.1 hv
    rw [← getD_of_lt hx]
    have hx3 : x < C * R := by rw [k3, ← hN] at hx; rw [Nat.mul_comm]; exact hx
    have e2 : x = x / R * R + x % R := by rw [Nat.mul_comm]; exact (Nat.div_add_mod x R).symm
    rw [e2, hex _ (Nat.div_lt_of_lt_mul (by rw [Nat.mul_comm]; exact hx3)) _ (Nat.mod_lt x (by omega))]
    exact getD_wds h.2.1 _
  · rw [hex i hi j hj]
    exact h.2.2 j hj i hi
end Go.Proofs.Ytbbgldelebgnfaa
