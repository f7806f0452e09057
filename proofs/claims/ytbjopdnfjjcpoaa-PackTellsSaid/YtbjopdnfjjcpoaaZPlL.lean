/-
The document's Pack. Conditions: a table of at most 64 rows and columns, the step from 1 to 64.
-/
import Derived.Test.YtbjopdnfjjcpoaaZPlK
import Derived.BigQuiet
set_option linter.unusedVariables false
set_option linter.unusedSimpArgs false
namespace Go.Proofs.Ytbjopdnfjjcpoaa
open Go.RowKit
attribute [local go_sem ↓] Go.wp_at_zero Go.wp_at_succ

/-- The panel's list, of which some rows are filled, and some numbers of the next one. -/
def Pdk (T : List Nat) (R C F1 F2 N i j : Nat) (T1 : List Nat) : Prop :=
  T1.length = N ∧ ∀ a, a < F1 → ∀ b, b < F2 → T1.getD (a * F2 + b) 0 = if (a < i ∨ (a = i ∧ b < j)) ∧ a < R ∧ b < C then T.getD (a * C + b) 0 else 0
theorem Pdk.zero (T : List Nat) (R C F1 F2 N : Nat) : Pdk T R C F1 F2 N 0 0 (List.replicate N 0) :=
  ⟨by simp, fun a _ b _ => by
    rw [if_neg (by omega), List.getD_eq_getElem?_getD]
    by_cases h : a * F2 + b < N <;> simp [h]⟩
theorem Pdk.next {T T1 : List Nat} {R C F1 F2 N i : Nat} (h : Pdk T R C F1 F2 N i C T1) : Pdk T R C F1 F2 N (i + 1) 0 T1 :=
  ⟨h.1, fun a ha b hb => by
    rw [h.2 a ha b hb]
    by_cases e : (a < i ∨ (a = i ∧ b < C)) ∧ a < R ∧ b < C
    · rw [if_pos e, if_pos (by omega)]
    · rw [if_neg e, if_neg (by omega)]⟩
theorem Pdk.step {T T1 : List Nat} {R C F1 F2 N i j : Nat} (h : Pdk T R C F1 F2 N i j T1) (hi : i < R) (hj : j < C) (hj2 : j < F2) (hN : i * F2 + j < N) : Pdk T R C F1 F2 N i (j + 1) (T1.set (i * F2 + j) (T.getD (i * C + j) 0)) := by
  refine ⟨by rw [List.length_set]; exact h.1, fun a ha b hb => ?_⟩
  by_cases e : a = i ∧ b = j
  · obtain ⟨rfl, rfl⟩ := e
    rw [getD_set_self (by rw [h.1]; exact hN), if_pos (by omega)]
  · rw [getD_set_ne _ (fun e2 => e (by have := tab_injg (C := F2) hj2 hb e2; omega)), h.2 a ha b hb]
    by_cases e1 : (a < i ∨ (a = i ∧ b < j)) ∧ a < R ∧ b < C
    · rw [if_pos e1, if_pos (by omega)]
    · rw [if_neg e1, if_neg (by omega)]
theorem Pdk.done {l T T1 : List Nat} {o R C L F1 F2 N NT : Nat} (h : Pdk T R C F1 F2 N R 0 T1) (hN : F1 * F2 = N) (hT : Tab l o R C L NT T) (hNT : R * C = NT) : T1 = pkl l o R C L F2 N := by
  refine ext_getD (by rw [h.1, pkl_length]) fun x hx => ?_
  rw [h.1] at hx
  have h2 : 0 < F2 := by
    rcases Nat.eq_zero_or_pos F2 with e | e
    · subst e; omega
    · exact e
  have e1 : x / F2 * F2 + x % F2 = x := by rw [Nat.mul_comm]; exact Nat.div_add_mod x F2
  have h3 : x % F2 < F2 := Nat.mod_lt _ h2
  have h4 : x / F2 < F1 := by rw [Nat.div_lt_iff_lt_mul h2, hN]; exact hx
  have e2 := h.2 _ h4 _ h3
  have e3 := pkl_get l o R C L (k := N) (i := x / F2) h3 (by rw [e1]; exact hx)
  rw [e1] at e2 e3
  rw [e2, e3]
  unfold atN
  by_cases e : x / F2 < R ∧ x % F2 < C
  · rw [if_pos (by omega), if_pos e]
    exact hT.2 _ _ e.1 e.2 (by have := tab_lt e.1 e.2; omega)
  · rw [if_neg (by omega), if_neg e]
theorem owb {w : World} {g : Nat} {l : List Nat} (h : Blk w g 39 (f64s l).toArray) : Own w g l := ⟨_, h, by show List.take l.length (f64s l) = _; rw [List.take_of_length_le (by simp [f64s])]⟩
/-- The document's panel. -/
def RpO (F1 F2 N : Nat) (D : List Nat) (w : World) (e : Ending) (w' : World) : Prop :=
  ∃ g, e = .returned (.tuple #[.int .i64 (F1 : Int), .int .i64 (F2 : Int), .slice (some ⟨g, 0, none⟩) N N]) ∧ Row w' (some ⟨g, 0, none⟩) (f64s D) ∧ Below w.heap.size w w'
set_option maxRecDepth 100000 in
set_option maxHeartbeats 4000000 in
theorem rpack_any (R C gT NT cT s0 : Nat) (T l : List Nat) (o L : Nat) (w : World) (hT : Row w (some ⟨gT, 0, none⟩) (f64s T)) (hTl : T.length = NT) (hNT : R * C = NT) (hTab : Tab l o R C L NT T) (hRb : R ≤ 64) (hCb : C ≤ 64) (hs1 : 1 ≤ s0) (hs2 : s0 ≤ 64) :
    Calls Try.prog 10 #[tbl R C gT NT cT, .int .i64 (s0 : Int)] w (RpO (fillN R s0) (fillN C s0) (fillN R s0 * fillN C s0) (pkl l o R C L (fillN C s0) (fillN R s0 * fillN C s0)) w) := by
  have hb1 := fillN_le (n := R) hs1
  have hb2 := fillN_le (n := C) hs1
  have HS := Lib.hid (And.intro hs1 hs2)
  have HM1 := Lib.hid (fillN_mod R s0)
  have HM2 := Lib.hid (fillN_mod C s0)
  have HL1 := Lib.hid (fun r h1 h2 => fillN_least (n := R) (s := s0) (r := r) hs1 h1 h2)
  have HL2 := Lib.hid (fun r h1 h2 => fillN_least (n := C) (s := s0) (r := r) hs1 h1 h2)
  obtain ⟨F1, hF1⟩ : ∃ F1, fillN R s0 = F1 := ⟨_, rfl⟩
  obtain ⟨F2, hF2⟩ : ∃ F2, fillN C s0 = F2 := ⟨_, rfl⟩
  rw [hF1] at HM1 HL1 hb1 ⊢
  rw [hF2] at HM2 HL2 hb2 ⊢
  have hFb : F1 ≤ 128 ∧ F2 ≤ 128 := by omega
  have HFb := Lib.hid (show (R ≤ F1 ∧ F1 ≤ 128) ∧ C ≤ F2 ∧ F2 ≤ 128 by omega)
  obtain ⟨N, hN⟩ : ∃ N, F1 * F2 = N := ⟨_, rfl⟩
  have hNb : N ≤ 16384 := by rw [← hN]; exact Nat.mul_le_mul hFb.1 hFb.2
  have HNb := Lib.hid hNb
  have HN := Lib.hid hN
  have HMul := Lib.hid (fl_w (z := (F1 : Int) * (F2 : Int)) (M := N) (by rw [← hN]; simp) (by omega))
  rw [hN]
  have HDn := Lib.hid (fun T1 (h : Pdk T R C F1 F2 N R 0 T1) => h.done hN hTab hNT)
  have hNTb : NT < 1048576 := by rw [← hNT]; have := Nat.mul_le_mul hRb hCb; omega
  have HAt0 := Lib.hid (fun W (a b : Nat) (ha : a < R) (hb : b < C) (h : Row W (some ⟨gT, 0, none⟩) (f64s T)) => rat8_any R C gT NT cT T a b W h hTl hNTb (by rw [← hNT]; exact tab_lt ha hb))
  have HT := Lib.hid hT
  have HRC := Lib.hid (And.intro hRb hCb)
  have hmk := fun V => frun_make N (by omega) V
  clear hT hTl hNT hTab hRb hCb hs1 hs2 hb1 hb2 hF1 hF2 hFb hN hNb hNTb
  unfold tbl
  go_enter Try.func10, Try.ntmps10
  have HZ0 := Lib.hid (Blk.new w 35 #[.int .i64 (R : Int), .int .i64 (C : Int), .slice (some ⟨gT, 0, none⟩) NT cT])
  have HB0 := Lib.hid ((Below.refl w.heap.size w).alloc (Nat.le_refl _) (.cells #[.int .i64 (R : Int), .int .i64 (C : Int), .slice (some ⟨gT, 0, none⟩) NT cT] 35))
  obtain ⟨c0, c1, c2⟩ := cells3v HZ0.out
  go_wp2_with fail
  go_quiet (fail)
  rename_i nq
  have HZ1 := Lib.hid (HZ0.out.drewN nq)
  have HB1 := Lib.hid (below_drewN HB0.out nq)
  generalize (w.alloc (.cells #[.int .i64 (R : Int), .int .i64 (C : Int), .slice (some ⟨gT, 0, none⟩) NT cT] 35)).drewN nq = w1 at *
  clear HZ0 HB0 c0 c1 c2
  go_wp2_with fail
  go_loopw [7] (fun rv wr => ∃ r : Nat, (R ≤ r ∧ r ≤ F1) ∧ rv = .int .i64 (r : Int) ∧ wr = w1) (fun rv _ => F1 - (intOf rv).toNat)
  case atStart => exact ⟨R, ⟨Nat.le_refl _, HFb.out.1.1⟩, rfl, rfl⟩
  case round =>
    obtain ⟨r, hr, rfl, hww⟩ := hrel
    have hww2 := hww.symm
    subst hww2
    obtain ⟨q, m, hq, hm, f1, f2, ⟨f3, f4, f5, f6⟩, f7, f8⟩ := wh_facts (n := r) (k := s0) HS.out.1 (by have := HFb.out; omega)
    clear hm f2 f8
    by_cases h0 : q = 0
    · have er : r = F1 := Nat.le_antisymm hr.2 (HL1.out r hr.1 (by rw [← hq]; exact h0))
      subst er
      subst h0
      clear hq
      go_wp2_with fail
      clear f1 f3 f4 f5 f6 f7
      go_loopw [8] (fun rv wr => ∃ r2 : Nat, (C ≤ r2 ∧ r2 ≤ F2) ∧ rv = .int .i64 (r2 : Int) ∧ wr = w1) (fun rv _ => F2 - (intOf rv).toNat)
      case atStart => exact ⟨C, ⟨Nat.le_refl _, HFb.out.2.1⟩, rfl, rfl⟩
      case round =>
        obtain ⟨r2, hr2, rfl, hww⟩ := hrel
        have hww2 := hww.symm
        subst hww2
        obtain ⟨q, m, hq, hm, f1, f2, ⟨f3, f4, f5, f6⟩, f7, f8⟩ := wh_facts (n := r2) (k := s0) HS.out.1 (by have := HFb.out; omega)
        clear hm f2 f8
        by_cases h0 : q = 0
        · have er : r2 = F2 := Nat.le_antisymm hr2.2 (HL2.out r2 hr2.1 (by rw [← hq]; exact h0))
          subst er
          subst h0
          obtain ⟨hm1, hm2⟩ := HMul.out
          have HOw0 := Lib.hid (owb (Blk.new w1 39 (f64s (List.replicate N 0)).toArray))
          have HZ2 := Lib.hid (HZ1.out.alloc (.cells (f64s (List.replicate N 0)).toArray 39))
          have HB2 := Lib.hid (HB1.out.alloc HB1.out.size (.cells (f64s (List.replicate N 0)).toArray 39))
          have Hgl := Lib.hid (show w.heap.size < w1.heap.size from HZ1.out.lt)
          clear hq
          go_wp2_with fail
          clear f1 f3 f4 f5 f6 f7 hm1 hm2 hmk
          generalize w1.alloc (.cells (f64s (List.replicate N 0)).toArray 39) = w2 at *
          go_loopw [10] (fun a wr => ∃ (i : Nat) (T1 : List Nat), i ≤ R ∧ a = .int .i64 (i : Int) ∧ Own wr w1.heap.size T1 ∧ Pdk T R C r r2 N i 0 T1 ∧ Blk wr w.heap.size 35 #[.int .i64 (R : Int), .int .i64 (C : Int), .slice (some ⟨gT, 0, none⟩) NT cT] ∧ Below w.heap.size w wr) (fun a _ => R - (intOf a).toNat)
          case atStart => exact ⟨0, _, Nat.zero_le _, rfl, HOw0.out, Pdk.zero _ _ _ _ _ _, HZ2.out, HB2.out⟩
          case round =>
            clear HOw0 HZ2 HB2
            obtain ⟨i, T1, hi, rfl, ho, hp, hz, hbl⟩ := hrel
            have HO1 := Lib.hid ho
            have HP1 := Lib.hid hp
            have HZr := Lib.hid hz
            have HBr := Lib.hid hbl
            clear ho hp hz hbl
            obtain ⟨c0, c1, c2⟩ := cells3v HZr.out
            by_cases hlt : i < R
            · have hic : (i : Int) < (R : Int) := by omega
              go_wp2_with fail
              clear c0 c1 c2
              go_loopw [11] (fun a wr => ∃ (j : Nat) (T1 : List Nat), j ≤ C ∧ a = .int .i64 (j : Int) ∧ Own wr w1.heap.size T1 ∧ Pdk T R C r r2 N i j T1 ∧ Blk wr w.heap.size 35 #[.int .i64 (R : Int), .int .i64 (C : Int), .slice (some ⟨gT, 0, none⟩) NT cT] ∧ Below w.heap.size w wr) (fun a _ => C - (intOf a).toNat)
              case atStart => exact ⟨0, T1, Nat.zero_le _, rfl, HO1.out, HP1.out, HZr.out, HBr.out⟩
              case round =>
                clear HO1 HP1 HZr HBr
                obtain ⟨j, T1, hj, rfl, ho, hp, hz, hbl⟩ := hrel
                have HO1 := Lib.hid ho
                have HP1 := Lib.hid hp
                have HZr := Lib.hid hz
                have HBr := Lib.hid hbl
                clear ho hp hz hbl
                obtain ⟨c0, c1, c2⟩ := cells3v HZr.out
                by_cases hlj : j < C
                · have hjc : (j : Int) < (C : Int) := by omega
                  have hF := HFb.out
                  have hPN : i * r2 + j < N := by rw [← HN.out]; exact tab_lt (by omega) (by omega)
                  have HP2 := Lib.hid (HP1.out.step hlt hlj (by omega) hPN)
                  have HAt := Lib.hid (HAt0.out wr i j hlt hlj (HT.out.below HBr.out))
                  have hT1 : T1.length = N := HP1.out.1
                  have hNb := HNb.out
                  obtain ⟨x, hx⟩ : ∃ x, T.getD (i * C + j) 0 = x := ⟨_, rfl⟩
                  obtain ⟨IA, hIA⟩ : ∃ IA, i * r2 = IA := ⟨_, rfl⟩
                  obtain ⟨P, hP⟩ : ∃ P, IA + j = P := ⟨_, rfl⟩
                  rw [hIA] at HP2 hPN
                  rw [hP] at HP2 hPN
                  rw [hx] at HP2 HAt
                  have hPl : P < T1.length := by omega
                  have hPi : (P : Int) < (N : Int) := by omega
                  have HPl := Lib.hid hPl
                  have hj1 : j + 1 ≤ 1048576 := by omega
                  obtain ⟨p1, p2⟩ := fl_w (z := (i : Int) * (r2 : Int)) (M := IA) (by rw [← hIA]; simp) (by omega)
                  obtain ⟨p3, p4⟩ := fl_w (z := (IA : Int) + (j : Int)) (M := P) (by omega) (by omega)
                  clear hx hIA hP hF hT1 hNb hPl
                  go_wp2_with fail
                  refine HAt.out.mono ?_
                  rintro e w4 ⟨rfl, hb⟩
                  have HO4 := Lib.hid (HO1.out.nxt hb)
                  have HZ4 := Lib.hid (HZr.out.nxt hb)
                  have HB4 := Lib.hid (below_nx HBr.out hb)
                  clear hb c0 c1 c2
                  have hce := HO4.out.get P HPl.out
                  have hfr := HO4.out.frozen P
                  have HO5 := Lib.hid (HO4.out.set_ P x HPl.out)
                  have HZ5 := Lib.hid (HZ4.out.other (p := ⟨w1.heap.size, P, none⟩) (by have := Hgl.out; show w.heap.size ≠ w1.heap.size; omega) (.float .f64 x))
                  have HB5 := Lib.hid (HB4.out.setCell (p := ⟨w1.heap.size, P, none⟩) (by have := Hgl.out; show w.heap.size ≤ w1.heap.size; omega) (.float .f64 x))
                  generalize T1[P]'HPl.out = y at *
                  go_wp2_with fail
                  clear p1 p2 p3 p4 hce hfr
                  go_roundw
                  case rel => exact ⟨j + 1, _, by omega, by go_num, HO5.out, HP2.out, HZ5.out, HB5.out⟩
                  case measure => simp [intOf]; omega
                · obtain rfl : j = C := by omega
                  have hjc : ¬ (j : Int) < (j : Int) := by omega
                  have hi1 : i + 1 ≤ 1048576 := by have := HRC.out; omega
                  go_wp2_with fail
                  go_roundw
                  case rel => exact ⟨i + 1, T1, by omega, by go_num, HO1.out, HP1.out.next, HZr.out, HBr.out⟩
                  case measure => simp [intOf]; omega
            · obtain rfl : i = R := by omega
              have hic : ¬ (i : Int) < (i : Int) := by omega
              have e5 := HDn.out T1 HP1.out
              subst e5
              go_wp2_with fail
              exact bodyPost_ret (v := .tuple #[.int .i64 (r : Int), .int .i64 (r2 : Int), .slice (some ⟨w1.heap.size, 0, none⟩) N N]) (by simp [results, Try.results10, go_sem]) rfl ⟨w1.heap.size, rfl, HO1.out.row, HBr.out⟩
        · have h5 : ((q : Int) == 0) = false := by simp; omega
          have h6 : r2 < F2 := by
            rcases Nat.lt_or_ge r2 F2 with h | h
            · exact h
            · have e : r2 = F2 := by omega
              have := HM2.out
              rw [← e] at this
              omega
          have h7 : r2 + 1 ≤ 1048576 := by have := HFb.out; omega
          clear hq
          go_wp2_with fail
          clear f1 f3 f4 f5 f6 f7 h5
          go_roundw
          case rel => exact ⟨r2 + 1, ⟨by omega, by omega⟩, by go_num, trivial⟩
          case measure => simp [intOf]; omega
    · have h5 : ((q : Int) == 0) = false := by simp; omega
      have h6 : r < F1 := by
        rcases Nat.lt_or_ge r F1 with h | h
        · exact h
        · have e : r = F1 := by omega
          have := HM1.out
          rw [← e] at this
          omega
      have h7 : r + 1 ≤ 1048576 := by have := HFb.out; omega
      clear hq
      go_wp2_with fail
      clear f1 f3 f4 f5 f6 f7 h5
      go_roundw
      case rel => exact ⟨r + 1, ⟨by omega, by omega⟩, by go_num, trivial⟩
      case measure => simp [intOf]; omega
end Go.Proofs.Ytbjopdnfjjcpoaa
