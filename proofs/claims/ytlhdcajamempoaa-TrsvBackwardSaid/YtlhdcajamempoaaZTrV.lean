/-
TrsvBackward, walked where its premises hold. Conditions: as it says.
-/
import Derived.Test.YtlhdcajamempoaaZTrU
set_option linter.unusedVariables false
set_option linter.unusedSimpArgs false
set_option linter.unnecessarySimpa false
namespace Go.Proofs.Ytlhdcajamempoaa
open Go.RowKit
attribute [local go_sem ↓] Go.wp_at_zero Go.wp_at_succ

theorem trV_fin {kd : Nat} {f : Nat → Nat → Nat} {i k : Nat} (h : ∀ i k, Fl.rung (f i k) < Fl.INF) : Fl.rung (trV kd f i k) < Fl.INF := by
  have h1 : Fl.rung 4607182418800017408 < Fl.INF := by decide
  unfold trV
  split
  · split
    · exact h1
    · exact h _ _
  · split
    · exact h _ _
    · split
      · split
        · exact h1
        · exact h _ _
      · exact h _ _
theorem trV_unit {kd : Nat} (hk : kd = 1 ∨ kd = 3) (f : Nat → Nat → Nat) (i : Nat) : trV kd f i i = 4607182418800017408 := by
  rcases hk with rfl | rfl <;> (unfold trV; simp)
theorem trT_diag {kd : Nat} (i : Nat) : trT kd i i = true := by unfold trT; split <;> simp
theorem exd_step (T : Nat → Bool) (b i : Nat) (v x : Nat → Nat) (j : Nat) : (T j = true → EXd T b v x (j + 1) = EXd T b v x j + fdy (v j) * fdy (x j) ∧ SXd T v x (j + 1) = SXd T v x j + dabs (fdy (v j) * fdy (x j)) ∧ (i = j → GXd T i v (j + 1) = GXd T i v j + dabs (fdy (v j))) ∧ (i ≠ j → GXd T i v (j + 1) = GXd T i v j)) ∧ (T j = false → EXd T b v x (j + 1) = EXd T b v x j ∧ SXd T v x (j + 1) = SXd T v x j ∧ GXd T i v (j + 1) = GXd T i v j) := by
  constructor
  · intro h
    refine ⟨?_, ?_, fun e => ?_, fun e => ?_⟩
    · show (if T j = true then _ else _) = _; rw [if_pos h]
    · show (if T j = true then _ else _) = _; rw [if_pos h]
    · show (if T j = true ∧ i = j then _ else _) = _; rw [if_pos ⟨h, e⟩]
    · show (if T j = true ∧ i = j then _ else _) = _; rw [if_neg (fun q => e q.2)]
  · intro h
    refine ⟨?_, ?_, ?_⟩
    · show (if T j = true then _ else _) = _; rw [if_neg (by rw [h]; simp)]
    · show (if T j = true then _ else _) = _; rw [if_neg (by rw [h]; simp)]
    · show (if T j = true ∧ i = j then _ else _) = _; rw [if_neg (fun q => by rw [h] at q; simp at q)]

set_option maxRecDepth 100000 in
set_option maxHeartbeats 8000000 in
theorem trb_good (kd : Nat) (hkd : kd = 1 ∨ kd = 2 ∨ kd = 3 ∨ kd = 4) (q : Nat) (Al : Option Addr) (nl cl : Nat) (l : List Nat) (Ab : Option Addr) (n cb : Nat) (b : List Nat) (w : World) (hAl : Row w Al (f64s l)) (hAb : Row w Ab (f64s b)) (hWl : Wds l) (hWb : Wds b) (hl : l.length = nl) (hbl : b.length = n)
    (hq : q < 256) (hk : 1 + q % 4 = kd) (h1 : 1 ≤ n) (h2 : n ≤ 10) (h5 : nl ≤ 200) (hfl : l.all Fl.fin = true) (hfb : b.all Fl.fin = true) :
    Calls Try.prog 6 #[.int .u8 (q : Int), .slice Al nl cl, .slice Ab n cb] w fun e w' => e = .returned (.bool true) ∧ Below w.heap.size w w' := by
  obtain ⟨bb0, yb0, rfl, _⟩ := hAb.get0 (k := 0) (by omega)
  obtain ⟨s, HU⟩ := trb_ints hq hk
  have d3 : decide ((n : Int) < 1) = false := by simp; omega
  have d5 : decide ((10 : Int) < (n : Int)) = false := by simp; omega
  have d7 : decide ((200 : Int) < (nl : Int)) = false := by simp; omega
  obtain ⟨N, hN⟩ : ∃ N, n * n = N := ⟨_, rfl⟩
  have hNb : N ≤ 100 := by rw [← hN]; exact Nat.le_trans (Nat.mul_le_mul h2 h2) (by omega)
  have HNh := Lib.hid hN
  clear hN
  have HFl := Lib.hid (fun W (hb : Below w.heap.size w W) => show Calls Try.prog 30 #[.slice Al nl cl] W fun e w' => e = .returned (.bool true) ∧ W = w' from by
    have := rfin_any Al nl cl l W (hAl.below hb) hWl hl (by omega)
    rw [hfl] at this; exact this)
  have HFb := Lib.hid (fun W (hb : Below w.heap.size w W) => show Calls Try.prog 30 #[.slice (some ⟨bb0, yb0, none⟩) n cb] W fun e w' => e = .returned (.bool true) ∧ W = w' from by
    have := rfin_any (some ⟨bb0, yb0, none⟩) n cb b W (hAb.below hb) hWb hbl (by omega)
    rw [hfb] at this; exact this)
  have HNw := Lib.hid (fun W => show Calls Try.prog 31 #[.int .i64 n, .int .i64 n] W fun e w' => ∃ g, e = .returned (tbl n n g N N) ∧ Blk w' g 28 (f64s (List.replicate N 0)).toArray ∧ W.heap.size ≤ g ∧ Below W.heap.size W w' from
    rnew_any n n N W HNh.out (by omega) (by omega) (by omega))
  obtain ⟨T, hTd⟩ : ∃ T, tabT l N = T := ⟨_, rfl⟩
  have hTl : T.length = N := by rw [← hTd]; exact tabT_length l N
  have hWT : Wds T := by rw [← hTd]; exact tabT_all hWl (by omega)
  have hTf : T.all Fl.fin = true := by
    rw [← hTd]
    refine List.all_eq_true.2 (tabT_all (p := fun b => Fl.fin b = true) (fun b hb => List.all_eq_true.1 hfl b hb) (by decide))
  have HCp := Lib.hid (fun W (gT : Nat) (hb : Below w.heap.size w W) (hg : Blk W gT 28 (f64s (List.replicate N 0)).toArray) => run_copy_chg W 3 gT N nl cl Al l hg hl (hAl.below hb))
  rw [hTd] at HCp
  have HDn := Lib.hid (fun W (gT : Nat) (hR : Row W (some ⟨gT, 0, none⟩) (f64s T)) => show Calls Try.prog 8 #[.int .i64 n, .int .i64 n, .slice (some ⟨gT, 0, none⟩) N N] W fun e w' => ∃ gM M, e = .returned (.agg #[.slice (some ⟨gM, 0, none⟩) N N, .int .i64 (0 : Int), .int .i64 (n : Int), .int .i64 (n : Int), .int .i64 (n : Int)]) ∧ Dense T n n M ∧ Own w' gM M ∧ W.heap.size ≤ gM ∧ Below W.heap.size W w' from by
    have := dense_blk (some ⟨gT, 0, none⟩) N T n n W (by omega) (by omega) hR (by omega) (by omega)
    rw [hTl, HNh.out, Nat.max_eq_right h1] at this
    exact this.mono fun e w' ⟨g, M, e1, e2, e3, e4, e5⟩ => ⟨g, M, e1, e2, own_blk e3, e4, e5⟩)
  have HCy := Lib.hid (fun W (hb : Below w.heap.size w W) => show Calls Try.prog 32 #[.slice (some ⟨bb0, yb0, none⟩) n cb] W fun e w' => ∃ g c', e = .returned (.slice (some ⟨g, 0, none⟩) n c') ∧ Own w' g b ∧ W.heap.size ≤ g ∧ Below W.heap.size W w' from by
    have := rcopy_any (some ⟨bb0, yb0, none⟩) cb b W (hAb.below hb) (by omega)
    rw [hbl] at this
    exact this.mono fun e w' ⟨g, c', e1, e2, e3, _, _, e4⟩ => ⟨g, c', e1, e2, e3, e4⟩)
  have HSo := Lib.hid (fun W (cz gz gM : Nat) (M : List Nat) (hDn : Dense T n n M) (hz : Own W gz b) (hM : Own W gM M) (hne : gM ≠ gz) => trbsolve_any kd hkd n N cz gz gM T M b W HNh.out h1 h2 hbl hWb hWT hDn hz hM hne)
  have HFm := Lib.hid (fun W (B : Option Addr) (d : Nat) (m : List Nat) (hm : m.length = n) (hWm : Wds m) (hB : Row W B (f64s m)) => rfin_any B n d m W hB hWm hm (by omega))
  have HPt := Lib.hid (fun W (gT i j : Nat) (hi : i < n) (hj : j < n) (h : Row W (some ⟨gT, 0, none⟩) (f64s T)) => trpart_any kd hkd n gT N N T i j W h hTl HNh.out (by omega) hi hj)
  obtain ⟨vv, hvv⟩ : ∃ vv : Nat → Nat → Nat, trV kd (fun i k => T.getD (i * n + k) 0) = vv := ⟨_, rfl⟩
  have hvl : ∀ i j, vv i j < 18446744073709551616 ∧ Fl.rung (vv i j) < Fl.INF := fun i j => by
    rw [← hvv]
    exact ⟨trV_lt (fun i k => tr_wds hWT _), trV_fin (fun i k => fin_at hTf _)⟩
  have HVl := Lib.hid hvl
  have hv1 : kd = 1 ∨ kd = 3 → ∀ i, vv i i = 4607182418800017408 := fun e i => by rw [← hvv]; exact trV_unit e _ i
  have HPu := Lib.hid (fun (E : Nat → Nat → Nat) (F : Nat → Nat) (hS : TrS kd n vv (fun p => b.getD p 0) E F) (hF : ∀ p, p < n → Fl.rung (F p) < Fl.INF) i (hi : i < n) =>
    trb_cmp (T := trT kd i) (i := i) (n := n) (b := b.getD i 0) (v := vv i) (x := F) (trT_diag i) hi (tr_backward hkd h2 hi hS (fun e => hv1 e i) (hvl i i).2 (hF i hi)))
  have HEs := Lib.hid (fun (F : Nat → Nat) (hF : ∀ p, p < n → Fl.rung (F p) < Fl.INF) i k (hk : k ≤ n) => And.intro (exd_sz (T := trT kd i) (b := b.getD i 0) (v := vv i) (x := F) (n := n) (fin_at hfb i) (fun k _ => (hvl i k).2) hF k hk) (gxd_sz (T := trT kd i) (i := i) (v := vv i) (n := n) (fun k _ => (hvl i k).2) k hk))
  unfold TrbS at HSo
  rw [hvv] at HPt HSo
  have HFv := Lib.hid (fun k => And.intro (tr_wds hWb k) (fin_at hfb k))
  have HAb := Lib.hid hAb
  have HLn := Lib.hid (show b.length = n ∧ T.length = N ∧ n ≤ 10 from ⟨hbl, hTl, h2⟩)
  have hw1 : wrap64 ((n : Int) + 1) = (n : Int) + 1 := by unfold wrap64; omega
  have HW1 := Lib.hid hw1
  have HW2 := Lib.hid (show IntKind.i64.wrap ((n : Int) + 1) = (n : Int) + 1 from wrapi (by omega) (by omega))
  clear hAl hAb hWl hWb hl hbl hq hk h1 h5 hfl hfb hNb hTd hTl hWT hTf hkd hvv hvl hv1 h2 hw1
  obtain ⟨c1, c2, ⟨u1, u2⟩, ⟨u3, u4⟩, ⟨u5, u6⟩⟩ := HU.out
  unfold tbl at *
  go_enter Try.func6, Try.ntmps6
  go_wp2_with fail
  refine (awake9_any _).mono ?_
  rintro e w1 ⟨rfl, hb⟩
  have HB1 := Lib.hid hb
  clear hb
  go_wp2_with fail
  clear c1 c2 u1 u2 u3 u4 u5 u6
  refine (HFl.out _ HB1.out).mono ?_
  rintro e w1b ⟨rfl, rfl⟩
  go_wp2_with fail
  refine (HFb.out _ HB1.out).mono ?_
  rintro e w1b ⟨rfl, rfl⟩
  go_wp2_with fail
  refine (HNw.out _).mono ?_
  rintro e w2 ⟨gT, rfl, hTb, hgT, hb⟩
  have HB2 := Lib.hid (below_nx HB1.out hb)
  have HTb := Lib.hid (hTb.alloc (.cells #[.int .i64 (n : Int), .int .i64 (n : Int), .slice (some ⟨gT, 0, none⟩) N N] 47))
  have HPt2 := Lib.hid (Blk.new w2 47 #[.int .i64 (n : Int), .int .i64 (n : Int), .slice (some ⟨gT, 0, none⟩) N N])
  have HBA := Lib.hid (below_al HB2.out (o := (.cells #[.int .i64 (n : Int), .int .i64 (n : Int), .slice (some ⟨gT, 0, none⟩) N N] 47)))
  have HgT := Lib.hid (show gT ≠ w2.heap.size ∧ w.heap.size ≤ gT from ⟨by have := hTb.lt; omega, by have := HB1.out.size; omega⟩)
  obtain ⟨t0, t1, t2⟩ := cells3v HPt2.out
  obtain ⟨kc, w3, hcpA, hTb3, hc3⟩ := HCp.out _ gT HBA.out HTb.out
  clear hTb hgT hb
  have HTb3 := Lib.hid hTb3
  have HPt3 := Lib.hid (hc3.blk (by simpa using fun e => HgT.out.1 e.symm) HPt2.out)
  have HB3 := Lib.hid (hc3.below HBA.out HBA.out.size (by intro g hg; simp at hg; subst hg; exact HgT.out.2))
  clear hTb3 hc3
  obtain ⟨s0, s1, s2⟩ := cells3v HPt3.out
  go_wp2_with fail
  refine (HCy.out _ HB3.out).mono ?_
  rintro e w4 ⟨gz, cz, rfl, hz, hgz, hb⟩
  have HPt4 := Lib.hid (HPt3.out.nxt hb)
  have HTb4 := Lib.hid (HTb3.out.nxt hb)
  have HZ4 := Lib.hid hz
  have HB4 := Lib.hid (below_nx HB3.out hb)
  have HNz := Lib.hid (show w2.heap.size ≠ gz ∧ gT ≠ gz ∧ w.heap.size ≤ gz from ⟨by have := HPt3.out.lt; omega, by have := HTb3.out.lt; omega, by have := HB3.out.size; omega⟩)
  clear hz hgz hb t0 t1 t2 s0 s1 s2 hcpA
  generalize w2.heap.size = pt at *
  obtain ⟨s0, s1, s2⟩ := cells3v HPt4.out
  go_wp2_with fail
  refine (HDn.out _ _ (row_of_blk HTb4.out)).mono ?_
  rintro e w5 ⟨gM, M, rfl, hDn, hM, hgM, hb⟩
  have HPt5 := Lib.hid (HPt4.out.nxt hb)
  have HTb5 := Lib.hid (HTb4.out.nxt hb)
  have HZ5 := Lib.hid (HZ4.out.nxt hb)
  have HM5 := Lib.hid hM
  have HB5 := Lib.hid (below_nx HB4.out hb)
  have HDM := Lib.hid hDn
  have HNm := Lib.hid (show gM ≠ gz from by have := HZ4.out.lt; omega)
  clear hDn hM hgM hb s0 s1 s2
  go_wp2_with fail
  refine (HSo.out _ cz gz gM M HDM.out HZ5.out HM5.out HNm.out).mono ?_
  rintro e w6 (⟨E, F, m, rfl, hS, hm, ho, hc⟩ | ⟨rfl, hb⟩)
  rotate_left
  · have HB6 := Lib.hid (below_nx HB5.out hb)
    clear hb
    go_wp2_with fail
    refine (awake9_any _).mono ?_
    rintro e w9 ⟨rfl, hb⟩
    have HB9 := Lib.hid (below_nx HB6.out hb)
    clear hb
    go_wp2_with fail
    go_ret
    exact ⟨rfl, HB9.out⟩
  have HPt6 := Lib.hid (hc.blk (by simpa using HNz.out.1) HPt5.out)
  have HTr6 := Lib.hid (row_of_blk (hc.blk (by simpa using HNz.out.2.1) HTb5.out))
  have HZ6 := Lib.hid ho
  have HB6 := Lib.hid (hc.below HB5.out HB5.out.size (by intro g hg; simp at hg; subst hg; exact HNz.out.2.2))
  have HMm := Lib.hid hm
  have HSs := Lib.hid hS
  have hWm : Wds m := by
    intro b hb
    obtain ⟨j, hj, rfl⟩ := List.getElem_of_mem hb
    have := (HMm.out.2 j (by rw [← HMm.out.1]; exact hj)).lt
    rwa [getD_of_lt hj] at this
  have HWm := Lib.hid hWm
  clear hm ho hc hWm hS
  go_wp2_with fail
  refine (HFm.out _ _ _ m HMm.out.1 HWm.out HZ6.out.row).mono ?_
  rintro e w6b ⟨rfl, rfl⟩
  obtain ⟨fb, hfb⟩ : ∃ fb, m.all Fl.fin = fb := ⟨_, rfl⟩
  rw [hfb]
  have HFb9 := Lib.hid hfb
  clear hfb
  cases fb
  · go_wp2_with fail
    refine (awake9_any _).mono ?_
    rintro e w9 ⟨rfl, hb⟩
    have HB9 := Lib.hid (below_nx HB6.out hb)
    clear hb
    go_wp2_with fail
    go_ret
    exact ⟨rfl, HB9.out⟩
  have hmF : ∀ p, p < n → m.getD p 0 = F p ∧ Fl.rung (F p) < Fl.INF ∧ F p < 18446744073709551616 := fun p hp => by
    have h3 := HMm.out.2 p hp
    have h4 := fin_at HFb9.out p
    have h5 : Fl.nan (m.getD p 0) = false := by
      cases e : Fl.nan (m.getD p 0)
      · rfl
      · have := nan_rung.1 e; omega
    have h6 := h3.eq_of (by rw [← h3.nan]; exact h5)
    exact ⟨h6, by rw [← h6]; exact h4, by rw [← h6]; exact h3.lt⟩
  have HMF := Lib.hid hmF
  have HPi0 := Lib.hid (HPu.out E F HSs.out (fun p hp => (hmF p hp).2.1))
  have HEi0 := Lib.hid (HEs.out F (fun p hp => (hmF p hp).2.1))
  clear hmF
  go_wp2_with fail
  go_loopw [12] (fun a wr => ∃ i : Nat, i ≤ n ∧ a = .int .i64 i ∧ Hid (Below w6.heap.size w6 wr)) (fun a _ => n - (intOf a).toNat)
  case atStart => exact ⟨0, Nat.zero_le _, rfl, Lib.hid (Below.refl _ _)⟩
  case round =>
    obtain ⟨i, hi, rfl, HBr⟩ := hrel
    by_cases hlt : i < n
    · have hic : (i : Int) < (n : Int) := by omega
      have hi1 : i + 1 ≤ 1048576 := by have := HLn.out.2.2; omega
      have bi : i < n := hlt
      have hcy := HAb.out.below (below_nx HB6.out HBr.out)
      obtain ⟨b9, o9, e9, hcy⟩ := hcy.get0 (k := i) (by rw [HLn.out.1]; exact hlt)
      injection e9 with e9
      injection e9 with e91 e92
      subst e91 e92
      obtain ⟨vf, hvf⟩ : ∃ vf : Nat → Nat, vv i = vf := ⟨_, rfl⟩
      obtain ⟨Tk, hTk⟩ : ∃ Tk : Nat → Bool, trT kd i = Tk := ⟨_, rfl⟩
      have hEi := HEi0.out i
      have hpu := HPi0.out i hlt
      have hfy := HFv.out i
      have hpt := fun W j hj h => HPt.out W gT i j hlt hj h
      have hvl := HVl.out i
      obtain ⟨bv, hbv⟩ : ∃ bv, b.getD i 0 = bv := ⟨_, rfl⟩
      rw [hvf, hTk, hbv] at hEi hpu
      rw [hbv] at hcy hfy
      rw [hvf] at hvl
      simp only [hvf, hTk] at hpt
      have HYc := Lib.hid hcy
      have HFy := Lib.hid hfy
      have HPi := Lib.hid hpu
      have HEi := Lib.hid hEi
      have HPj := Lib.hid hpt
      have HVj := Lib.hid hvl
      have HSt := Lib.hid (fun j => exd_step Tk bv i vf F j)
      clear hcy hfy hpu hEi hpt hvl hvf hTk hbv
      have hcb := HYc.out
      go_wp2_with fail
      refine (rof_v bv _ HFy.out.1 HFy.out.2).mono ?_
      rintro e wa ⟨va, rfl, hva, hb⟩
      have HVa := Lib.hid hva
      have HBa := Lib.hid hb
      clear hva hb hcb
      go_wp2_with fail
      refine (rminus_v HVa.out).mono ?_
      rintro e wb ⟨vb, rfl, hvb, hb⟩
      have HVb := Lib.hid hvb
      have HBb := Lib.hid (below_nx HBa.out hb)
      clear hvb hb
      go_wp2_with fail
      refine (rint_v 1 _ (by omega) (by omega)).mono ?_
      rintro e wc ⟨vc, rfl, hvc, hb⟩
      obtain ⟨ngb, Ab1, nb1, cb1, Eb1, Lb1, rfl, gRb, gNb, gdb⟩ := HVb.out.below hb
      obtain ⟨ngc, Ac1, nc1, cc1, Ec1, Lc1, rfl, gRc, gNc, gdc⟩ := hvc
      have HBc := Lib.hid (below_nx HBb.out hb)
      clear hb
      go_wp2_with fail
      have hbl3 : Below wc.heap.size wc (((wc.alloc (.cells #[.bool ngb, .slice Ab1 nb1 cb1, .int .i64 Eb1] 63)).alloc (.cells #[.bool false, .slice none 0 0, .int .i64 0] 63)).alloc (.cells #[.bool ngc, .slice Ac1 nc1 cc1, .int .i64 Ec1] 63)) := ((((Below.refl wc.heap.size wc).alloc (Nat.le_refl _) _).alloc (by simp) _).alloc (by simp; omega) _)
      have HE0 := Lib.hid (show Bx (((wc.alloc (.cells #[.bool ngb, .slice Ab1 nb1 cb1, .int .i64 Eb1] 63)).alloc (.cells #[.bool false, .slice none 0 0, .int .i64 0] 63)).alloc (.cells #[.bool ngc, .slice Ac1 nc1 cc1, .int .i64 Ec1] 63)) wc.heap.size (-(fdy bv)) from ⟨ngb, Ab1, nb1, cb1, Eb1, Lb1, ((Blk.new wc 63 #[.bool ngb, .slice Ab1 nb1 cb1, .int .i64 Eb1]).alloc (.cells #[.bool false, .slice none 0 0, .int .i64 0] 63)).alloc (.cells #[.bool ngc, .slice Ac1 nc1 cc1, .int .i64 Ec1] 63), gRb.below hbl3, gNb, gdb⟩)
      have HS0 := Lib.hid (show Bx (((wc.alloc (.cells #[.bool ngb, .slice Ab1 nb1 cb1, .int .i64 Eb1] 63)).alloc (.cells #[.bool false, .slice none 0 0, .int .i64 0] 63)).alloc (.cells #[.bool ngc, .slice Ac1 nc1 cc1, .int .i64 Ec1] 63)) (wc.heap.size + 1) 0 from ⟨false, none, 0, 0, 0, [], (Blk.new_ (wc.alloc (.cells #[.bool ngb, .slice Ab1 nb1 cb1, .int .i64 Eb1] 63)) 63 #[.bool false, .slice none 0 0, .int .i64 0] (wc.heap.size + 1) (by simp)).alloc (.cells #[.bool ngc, .slice Ac1 nc1 cc1, .int .i64 Ec1] 63), ⟨rfl, Nat.le_refl _, Row.nil _ _, Digs.nil _, fun _ _ e => by cases e⟩, .inl ⟨rfl, rfl, rfl⟩, by rw [rdy_nil]⟩)
      have HG0 := Lib.hid (show Bx (((wc.alloc (.cells #[.bool ngb, .slice Ab1 nb1 cb1, .int .i64 Eb1] 63)).alloc (.cells #[.bool false, .slice none 0 0, .int .i64 0] 63)).alloc (.cells #[.bool ngc, .slice Ac1 nc1 cc1, .int .i64 Ec1] 63)) (wc.heap.size + 1 + 1) (dy 1 0) from ⟨ngc, Ac1, nc1, cc1, Ec1, Lc1, Blk.new_ ((wc.alloc (.cells #[.bool ngb, .slice Ab1 nb1 cb1, .int .i64 Eb1] 63)).alloc (.cells #[.bool false, .slice none 0 0, .int .i64 0] 63)) 63 #[.bool ngc, .slice Ac1 nc1 cc1, .int .i64 Ec1] (wc.heap.size + 1 + 1) (by simp), gRc.below hbl3, gNc, gdc⟩)
      have HBo := Lib.hid (below_nx HBr.out (below_nx HBc.out hbl3))
      have HLo6 := Lib.hid (show w6.heap.size ≤ wc.heap.size ∧ w6.heap.size ≤ wc.heap.size + 1 ∧ w6.heap.size ≤ wc.heap.size + 1 + 1 from by have h1 := HBr.out.size; have h2 := HBc.out.size; exact ⟨by omega, by omega, by omega⟩)
      have HES := Lib.hid (show wc.heap.size ≠ wc.heap.size + 1 ∧ wc.heap.size ≠ wc.heap.size + 1 + 1 ∧ wc.heap.size + 1 ≠ wc.heap.size + 1 + 1 from ⟨by omega, by omega, by omega⟩)
      clear hbl3 gRb gNb gdb gRc gNc gdc HBc HBb HBa HVa HVb
      generalize ((wc.alloc (.cells #[.bool ngb, .slice Ab1 nb1 cb1, .int .i64 Eb1] 63)).alloc (.cells #[.bool false, .slice none 0 0, .int .i64 0] 63)).alloc (.cells #[.bool ngc, .slice Ac1 nc1 cc1, .int .i64 Ec1] 63) = wp at *
      generalize wc.heap.size + 1 + 1 = gG at *
      generalize wc.heap.size + 1 = gS at *
      generalize wc.heap.size = gE at *
      go_loopw [16] (fun b wr => ∃ j : Nat, j ≤ n ∧ b = .int .i64 j ∧ Hid (Bx wr gE (EXd Tk bv vf F j) ∧ Bx wr gS (SXd Tk vf F j) ∧ Bx wr gG (GXd Tk i vf j) ∧ Below w6.heap.size w6 wr)) (fun b _ => n - (intOf b).toNat)
      case atStart => exact ⟨0, Nat.zero_le _, rfl, Lib.hid ⟨HE0.out, HS0.out, HG0.out, HBo.out⟩⟩
      case round =>
        obtain ⟨j, hj, rfl, HH⟩ := hrel
        have HPw := Lib.hid (HPt6.out.nxt HH.out.2.2.2)
        by_cases hjn : j < n
        · have hjc : (j : Int) < (n : Int) := by omega
          have hj1 : j + 1 ≤ 1048576 := by have := HLn.out.2.2; omega
          have bj : j < n := hjn
          have hE := HEi.out j (by omega)
          have hst := HSt.out j
          have hpc := HPj.out wr j hjn (HTr6.out.below HH.out.2.2.2)
          have hft := HVj.out j
          have hmf := HMF.out j hjn
          have hfx : F j < 18446744073709551616 ∧ Fl.rung (F j) < Fl.INF := ⟨hmf.2.2, hmf.2.1⟩
          have hjl : j < m.length := by rw [HMm.out.1]; exact hjn
          have hcx := (HZ6.out.nxt HH.out.2.2.2).get j hjl
          rw [← getD_of_lt hjl, hmf.1] at hcx
          have hsz : Fitd (fdy (vf j)) ∧ Fitd (fdy (F j)) ∧ Fitd (fdy (vf j) * fdy (F j)) ∧ Fitd (SXd Tk vf F j) ∧ Fitd (dabs (fdy (vf j) * fdy (F j))) ∧ Fitd (EXd Tk bv vf F j) ∧ Fitd (GXd Tk i vf j) ∧ Fitd (dabs (fdy (vf j))) := by
            have hp : Sz 2148 (fdy (vf j) * fdy (F j)) := (Sz.float hft.2).mul (Sz.float hfx.2) (by omega)
            exact ⟨(Sz.float hft.2).fit (by omega), (Sz.float hfx.2).fit (by omega), hp.fit (by omega), hE.1.2.fit (by have := HLn.out.2.2; omega), hp.abs.fit (by omega), hE.1.1.fit (by have := HLn.out.2.2; omega), hE.2.fit (by have := HLn.out.2.2; omega), (Sz.float hft.2).abs.fit (by omega)⟩
          have hEH := HH.out.1
          have hSH := HH.out.2.1
          have hGH := HH.out.2.2.1
          obtain ⟨tv, htv⟩ : ∃ tv, vf j = tv := ⟨_, rfl⟩
          obtain ⟨xv, hxv⟩ : ∃ xv, F j = xv := ⟨_, rfl⟩
          obtain ⟨EJ, hEJ⟩ : ∃ EJ, EXd Tk bv vf F j = EJ := ⟨_, rfl⟩
          obtain ⟨SJ, hSJ⟩ : ∃ SJ, SXd Tk vf F j = SJ := ⟨_, rfl⟩
          obtain ⟨GJ, hGJ⟩ : ∃ GJ, GXd Tk i vf j = GJ := ⟨_, rfl⟩
          obtain ⟨ok, hok⟩ : ∃ ok, Tk j = ok := ⟨_, rfl⟩
          rw [htv, hxv, hEJ, hSJ, hGJ] at hsz
          rw [htv, hxv, hEJ, hSJ, hGJ, hok] at hst
          rw [htv, hok] at hpc
          rw [htv] at hft
          rw [hxv] at hcx hfx
          rw [hEJ] at hEH
          rw [hSJ] at hSH
          rw [hGJ] at hGH
          have HPc := Lib.hid hpc
          have HFt := Lib.hid hft
          have HFx := Lib.hid hfx
          have HSz := Lib.hid hsz
          have HXc0 := Lib.hid hcx
          have HNx := Lib.hid hst
          have HEh := Lib.hid hEH
          have HSh := Lib.hid hSH
          have HGh := Lib.hid hGH
          have HBh := Lib.hid HH.out.2.2.2
          clear hE hst hpc hft hmf hfx hjl hcx hsz hEH hSH hGH htv hxv hEJ hSJ hGJ hok
          obtain ⟨t0, t1, t2⟩ := cells3v HPw.out
          go_wp2_with fail
          refine (HPc.out).mono ?_
          rintro e wi ⟨rfl, hb⟩
          have HEj := Lib.hid (HEh.out.below hb)
          have HSj := Lib.hid (HSh.out.below hb)
          have HGj := Lib.hid (HGh.out.below hb)
          have HBj := Lib.hid (below_nx HBh.out hb)
          have HXc := Lib.hid (cell_below HXc0.out hb)
          clear hb t0 t1 t2
          cases ok
          · have HN0 := Lib.hid (HNx.out.2 rfl)
            go_wp2_with fail
            go_roundw
            case rel => exact ⟨j + 1, by omega, by go_num, Lib.hid ⟨by rw [HN0.out.1]; exact HEj.out, by rw [HN0.out.2.1]; exact HSj.out, by rw [HN0.out.2.2]; exact HGj.out, HBj.out⟩⟩
            case measure => simp [intOf] <;> omega
          have HN1 := Lib.hid (HNx.out.1 rfl)
          go_wp2_with fail
          refine wp_region_inv [109, 110, 111, 112, 113, 114, 115, 116, 19] (fun d s W => (d 0 = true → s 109 = .float .f64 tv) ∧ (d 1 = true → DV W (s 110) (fdy tv)) ∧ (d 2 = true → s 111 = .slice (some ⟨gz, 0, none⟩) n cz) ∧ (d 3 = true → s 112 = .int .i64 (j : Int)) ∧ (d 4 = true → s 113 = .pointer (some ⟨gz, j, none⟩)) ∧ (d 5 = true → s 114 = .float .f64 xv) ∧ (d 6 = true → DV W (s 115) (fdy xv)) ∧ (d 7 = true → DV W (s 116) (fdy tv * fdy xv)) ∧ (d 8 = true → NewB W (s 19) wi.heap.size) ∧ (d 1 = true → d 0 = true) ∧ (d 4 = true → d 2 = true ∧ d 3 = true) ∧ (d 5 = true → d 2 = true ∧ d 3 = true ∧ d 4 = true) ∧ (d 6 = true → d 2 = true ∧ d 3 = true ∧ d 4 = true ∧ d 5 = true) ∧ (d 7 = true → d 0 = true ∧ d 1 = true ∧ d 2 = true ∧ d 3 = true ∧ d 4 = true ∧ d 5 = true ∧ d 6 = true) ∧ (d 9 = true → d 0 = true ∧ d 1 = true ∧ d 2 = true ∧ d 3 = true ∧ d 4 = true ∧ d 5 = true ∧ d 6 = true ∧ d 7 = true ∧ d 8 = true) ∧ ((d 9 = false → Below wi.heap.size wi W) ∧ (d 9 = true → BxP W (s 19) wi.heap.size (fdy tv * fdy xv) ∧ Below wi.heap.size wi W)))
            rfl (by kernel_rfl) ?_ ?_ ?_
          · exact ⟨by simp, by simp, by simp, by simp, by simp, by simp, by simp, by simp, by simp, by simp, by simp, by simp, by simp, by simp, by simp, ⟨fun _ => (Below.refl _ _).drew, fun h => by simp at h⟩⟩
          · refine ⟨?_, ?_, ?_, ?_, ?_, ?_, ?_, ?_, ?_, ?_, trivial⟩
            all_goals
              intro d s W hJ hfr hd hdep
              simp only [List.mem_cons, forall_eq_or_imp, List.not_mem_nil, false_implies, implies_true, and_true, Region.binds] at hdep
              have f10 := hfr 10 (by decide)
              have f16 := hfr 16 (by decide)
              have f17 := hfr 17 (by decide)
              simp at f10 f16 f17 hdep
              obtain ⟨h0, h1, h2, h3, h4, h5, h6, h7, h8, x0, x1, x2, x3, x4, x5, hT⟩ := hJ
            · have hl : d 9 = false := by
                cases h : d 9
                · rfl
                · have := x5 h; simp [hd] at this
              replace hT := hT.1 hl
              unfold OpSteps
              simp [go_sem, evS, f17]
              exact ⟨fun _ => by simp [sput], fun h => by simpa [sput] using h1 (by simpa [did] using h), fun h => by simpa [sput] using h2 (by simpa [did] using h), fun h => by simpa [sput] using h3 (by simpa [did] using h), fun h => by simpa [sput] using h4 (by simpa [did] using h), fun h => by simpa [sput] using h5 (by simpa [did] using h), fun h => by simpa [sput] using h6 (by simpa [did] using h), fun h => by simpa [sput] using h7 (by simpa [did] using h), fun h => by simpa [sput] using h8 (by simpa [did] using h), fun h => by have := x0 (by simpa [did] using h); simp [did, this], fun h => by have := x1 (by simpa [did] using h); simp [did, this], fun h => by have := x2 (by simpa [did] using h); simp [did, this], fun h => by have := x3 (by simpa [did] using h); simp [did, this], fun h => by have := x4 (by simpa [did] using h); simp [did, this], fun h => by have := x5 (by simpa [did] using h); simp [did, this], ⟨fun _ => hT, fun h => by simp [did, hl] at h⟩⟩
            · have hl : d 9 = false := by
                cases h : d 9
                · rfl
                · have := x5 h; simp [hd] at this
              replace hT := hT.1 hl
              have fz0 := h0 (by simp [hdep])
              unfold OpSteps
              simp [go_sem, evS, fz0]
              refine (rof_v tv W HFt.out.1 HFt.out.2).mono ?_
              rintro e W' ⟨v9, rfl, hv, hb⟩
              refine ⟨_, rfl, ?_⟩
              exact ⟨fun h => by simpa [sput] using h0 (by simpa [did] using h), fun _ => by simpa [sput] using hv, fun h => by simpa [sput] using h2 (by simpa [did] using h), fun h => by simpa [sput] using h3 (by simpa [did] using h), fun h => by simpa [sput] using h4 (by simpa [did] using h), fun h => by simpa [sput] using h5 (by simpa [did] using h), fun h => by simpa [sput] using (h6 (by simpa [did] using h)).below hb, fun h => by simpa [sput] using (h7 (by simpa [did] using h)).below hb, fun h => by simpa [sput] using (h8 (by simpa [did] using h)).below hb, fun _ => by simp [did, hdep], fun h => by have := x1 (by simpa [did] using h); simp [did, this], fun h => by have := x2 (by simpa [did] using h); simp [did, this], fun h => by have := x3 (by simpa [did] using h); simp [did, this], fun h => by have := x4 (by simpa [did] using h); simp [did, this], fun h => by have := x5 (by simpa [did] using h); simp [did, this], ⟨fun _ => below_nx hT hb, fun h => by simp [did, hl] at h⟩⟩
            · have hl : d 9 = false := by
                cases h : d 9
                · rfl
                · have := x5 h; simp [hd] at this
              replace hT := hT.1 hl
              unfold OpSteps
              simp [go_sem, evS, f10]
              exact ⟨fun h => by simpa [sput] using h0 (by simpa [did] using h), fun h => by simpa [sput] using h1 (by simpa [did] using h), fun _ => by simp [sput], fun h => by simpa [sput] using h3 (by simpa [did] using h), fun h => by simpa [sput] using h4 (by simpa [did] using h), fun h => by simpa [sput] using h5 (by simpa [did] using h), fun h => by simpa [sput] using h6 (by simpa [did] using h), fun h => by simpa [sput] using h7 (by simpa [did] using h), fun h => by simpa [sput] using h8 (by simpa [did] using h), fun h => by have := x0 (by simpa [did] using h); simp [did, this], fun h => by have := x1 (by simpa [did] using h); simp [did, this], fun h => by have := x2 (by simpa [did] using h); simp [did, this], fun h => by have := x3 (by simpa [did] using h); simp [did, this], fun h => by have := x4 (by simpa [did] using h); simp [did, this], fun h => by have := x5 (by simpa [did] using h); simp [did, this], ⟨fun _ => hT, fun h => by simp [did, hl] at h⟩⟩
            · have hl : d 9 = false := by
                cases h : d 9
                · rfl
                · have := x5 h; simp [hd] at this
              replace hT := hT.1 hl
              unfold OpSteps
              simp [go_sem, evS, f16]
              exact ⟨fun h => by simpa [sput] using h0 (by simpa [did] using h), fun h => by simpa [sput] using h1 (by simpa [did] using h), fun h => by simpa [sput] using h2 (by simpa [did] using h), fun _ => by simp [sput], fun h => by simpa [sput] using h4 (by simpa [did] using h), fun h => by simpa [sput] using h5 (by simpa [did] using h), fun h => by simpa [sput] using h6 (by simpa [did] using h), fun h => by simpa [sput] using h7 (by simpa [did] using h), fun h => by simpa [sput] using h8 (by simpa [did] using h), fun h => by have := x0 (by simpa [did] using h); simp [did, this], fun h => by have := x1 (by simpa [did] using h); simp [did, this], fun h => by have := x2 (by simpa [did] using h); simp [did, this], fun h => by have := x3 (by simpa [did] using h); simp [did, this], fun h => by have := x4 (by simpa [did] using h); simp [did, this], fun h => by have := x5 (by simpa [did] using h); simp [did, this], ⟨fun _ => hT, fun h => by simp [did, hl] at h⟩⟩
            · have hl : d 9 = false := by
                cases h : d 9
                · rfl
                · have := x5 h; simp [hd] at this
              replace hT := hT.1 hl
              have fz2 := h2 (by simp [hdep])
              have fz3 := h3 (by simp [hdep])
              unfold OpSteps
              simp [go_sem, evS, fz2, fz3, bj]
              exact ⟨fun h => by simpa [sput] using h0 (by simpa [did] using h), fun h => by simpa [sput] using h1 (by simpa [did] using h), fun h => by simpa [sput] using h2 (by simpa [did] using h), fun h => by simpa [sput] using h3 (by simpa [did] using h), fun _ => by simp [sput], fun h => by simpa [sput] using h5 (by simpa [did] using h), fun h => by simpa [sput] using h6 (by simpa [did] using h), fun h => by simpa [sput] using h7 (by simpa [did] using h), fun h => by simpa [sput] using h8 (by simpa [did] using h), fun h => by have := x0 (by simpa [did] using h); simp [did, this], fun _ => by simp [did, hdep], fun h => by have := x2 (by simpa [did] using h); simp [did, this], fun h => by have := x3 (by simpa [did] using h); simp [did, this], fun h => by have := x4 (by simpa [did] using h); simp [did, this], fun h => by have := x5 (by simpa [did] using h); simp [did, this], ⟨fun _ => hT, fun h => by simp [did, hl] at h⟩⟩
            · have hl : d 9 = false := by
                cases h : d 9
                · rfl
                · have := x5 h; simp [hd] at this
              replace hT := hT.1 hl
              have fz4 := h4 (by simp [hdep])
              unfold OpSteps
              have pc := cell_below HXc.out hT
              simp [go_sem, evS, fz4, pc]
              exact ⟨fun h => by simpa [sput] using h0 (by simpa [did] using h), fun h => by simpa [sput] using h1 (by simpa [did] using h), fun h => by simpa [sput] using h2 (by simpa [did] using h), fun h => by simpa [sput] using h3 (by simpa [did] using h), fun h => by simpa [sput] using h4 (by simpa [did] using h), fun _ => by simp [sput], fun h => by simpa [sput] using h6 (by simpa [did] using h), fun h => by simpa [sput] using h7 (by simpa [did] using h), fun h => by simpa [sput] using h8 (by simpa [did] using h), fun h => by have := x0 (by simpa [did] using h); simp [did, this], fun h => by have := x1 (by simpa [did] using h); simp [did, this], fun _ => by have y4 := x1 (by simp [hdep]); simp [did, hdep, y4], fun h => by have := x3 (by simpa [did] using h); simp [did, this], fun h => by have := x4 (by simpa [did] using h); simp [did, this], fun h => by have := x5 (by simpa [did] using h); simp [did, this], ⟨fun _ => hT, fun h => by simp [did, hl] at h⟩⟩
            · have hl : d 9 = false := by
                cases h : d 9
                · rfl
                · have := x5 h; simp [hd] at this
              replace hT := hT.1 hl
              have fz5 := h5 (by simp [hdep])
              unfold OpSteps
              simp [go_sem, evS, fz5]
              refine (rof_v xv W HFx.out.1 HFx.out.2).mono ?_
              rintro e W' ⟨v9, rfl, hv, hb⟩
              refine ⟨_, rfl, ?_⟩
              exact ⟨fun h => by simpa [sput] using h0 (by simpa [did] using h), fun h => by simpa [sput] using (h1 (by simpa [did] using h)).below hb, fun h => by simpa [sput] using h2 (by simpa [did] using h), fun h => by simpa [sput] using h3 (by simpa [did] using h), fun h => by simpa [sput] using h4 (by simpa [did] using h), fun h => by simpa [sput] using h5 (by simpa [did] using h), fun _ => by simpa [sput] using hv, fun h => by simpa [sput] using (h7 (by simpa [did] using h)).below hb, fun h => by simpa [sput] using (h8 (by simpa [did] using h)).below hb, fun h => by have := x0 (by simpa [did] using h); simp [did, this], fun h => by have := x1 (by simpa [did] using h); simp [did, this], fun h => by have := x2 (by simpa [did] using h); simp [did, this], fun _ => by have y5 := x2 (by simp [hdep]); simp [did, hdep, y5], fun h => by have := x4 (by simpa [did] using h); simp [did, this], fun h => by have := x5 (by simpa [did] using h); simp [did, this], ⟨fun _ => below_nx hT hb, fun h => by simp [did, hl] at h⟩⟩
            · have hl : d 9 = false := by
                cases h : d 9
                · rfl
                · have := x5 h; simp [hd] at this
              replace hT := hT.1 hl
              have fz1 := h1 (by simp [hdep])
              have fz6 := h6 (by simp [hdep])
              unfold OpSteps
              simp [go_sem, evS, fz1, fz6]
              refine (rmul_v fz1 fz6 HSz.out.1 HSz.out.2.1).mono ?_
              rintro e W' ⟨v9, rfl, hv, hb⟩
              refine ⟨_, rfl, ?_⟩
              exact ⟨fun h => by simpa [sput] using h0 (by simpa [did] using h), fun h => by simpa [sput] using (h1 (by simpa [did] using h)).below hb, fun h => by simpa [sput] using h2 (by simpa [did] using h), fun h => by simpa [sput] using h3 (by simpa [did] using h), fun h => by simpa [sput] using h4 (by simpa [did] using h), fun h => by simpa [sput] using h5 (by simpa [did] using h), fun h => by simpa [sput] using (h6 (by simpa [did] using h)).below hb, fun _ => by simpa [sput] using hv, fun h => by simpa [sput] using (h8 (by simpa [did] using h)).below hb, fun h => by have := x0 (by simpa [did] using h); simp [did, this], fun h => by have := x1 (by simpa [did] using h); simp [did, this], fun h => by have := x2 (by simpa [did] using h); simp [did, this], fun h => by have := x3 (by simpa [did] using h); simp [did, this], fun _ => by have y1 := x0 (by simp [hdep]); have y6 := x3 (by simp [hdep]); simp [did, hdep, y1, y6], fun h => by have := x5 (by simpa [did] using h); simp [did, this], ⟨fun _ => below_nx hT hb, fun h => by simp [did, hl] at h⟩⟩
            · have hl : d 9 = false := by
                cases h : d 9
                · rfl
                · have := x5 h; simp [hd] at this
              replace hT := hT.1 hl
              unfold OpSteps
              simp [go_sem, evS]
              exact ⟨fun h => by simpa [sput] using h0 (by simpa [did] using h), fun h => by simpa [sput] using (h1 (by simpa [did] using h)).below below_one, fun h => by simpa [sput] using h2 (by simpa [did] using h), fun h => by simpa [sput] using h3 (by simpa [did] using h), fun h => by simpa [sput] using h4 (by simpa [did] using h), fun h => by simpa [sput] using h5 (by simpa [did] using h), fun h => by simpa [sput] using (h6 (by simpa [did] using h)).below below_one, fun h => by simpa [sput] using (h7 (by simpa [did] using h)).below below_one, fun _ => ⟨W.heap.size, _, _, _, by simp [sput], Blk.new W _ _, hT.size⟩, fun h => by have := x0 (by simpa [did] using h); simp [did, this], fun h => by have := x1 (by simpa [did] using h); simp [did, this], fun h => by have := x2 (by simpa [did] using h); simp [did, this], fun h => by have := x3 (by simpa [did] using h); simp [did, this], fun h => by have := x4 (by simpa [did] using h); simp [did, this], fun h => by have := x5 (by simpa [did] using h); simp [did, this], ⟨fun _ => below_al hT, fun h => by simp [did, hl] at h⟩⟩
            · have fz8 := h8 (by simp [hdep])
              have fz7 := h7 (by simp [hdep])
              unfold OpSteps
              replace hT := hT.1 hd
              obtain ⟨g9, z0, z1, z2, gp, hB9, hlo⟩ := fz8
              obtain ⟨ng, A9, n9, c9, E9, L9, gv, gR, gN, gd⟩ := fz7
              have fr0 := hB9.frozen 0
              have fr1 := hB9.frozen 1
              have fr2 := hB9.frozen 2
              obtain ⟨k0, k1, k2⟩ := cells3 hB9
              simp [go_sem, evS, gp, gv, fr0, fr1, fr2, k0, k1, k2]
              exact ⟨fun h => by simpa [sput] using h0 (by simpa [did] using h), fun h => by simpa [sput] using ((((h1 (by simpa [did] using h)).far hB9 (by decide) 0 _).far (hB9.set_ 0 _) (by decide) 1 _).far ((hB9.set_ 0 _).set_ 1 _) (by decide) 2 _), fun h => by simpa [sput] using h2 (by simpa [did] using h), fun h => by simpa [sput] using h3 (by simpa [did] using h), fun h => by simpa [sput] using h4 (by simpa [did] using h), fun h => by simpa [sput] using h5 (by simpa [did] using h), fun h => by simpa [sput] using ((((h6 (by simpa [did] using h)).far hB9 (by decide) 0 _).far (hB9.set_ 0 _) (by decide) 1 _).far ((hB9.set_ 0 _).set_ 1 _) (by decide) 2 _), fun h => by simpa [sput] using ((((h7 (by simpa [did] using h)).far hB9 (by decide) 0 _).far (hB9.set_ 0 _) (by decide) 1 _).far ((hB9.set_ 0 _).set_ 1 _) (by decide) 2 _), fun h => ⟨g9, _, _, _, by simpa [sput] using gp, Blk.store3 hB9 _ _ _, hlo⟩, fun h => by have := x0 (by simpa [did] using h); simp [did, this], fun h => by have := x1 (by simpa [did] using h); simp [did, this], fun h => by have := x2 (by simpa [did] using h); simp [did, this], fun h => by have := x3 (by simpa [did] using h); simp [did, this], fun h => by have := x4 (by simpa [did] using h); simp [did, this], fun _ => by have y7 := x4 (by simp [hdep]); simp [did, hdep, y7], ⟨fun h => by simp [did] at h, fun _ => ⟨⟨g9, by simpa [sput] using gp, bx_store hB9 gR gN gd, hlo⟩, (((hT.setCell (p := ⟨g9, 0, none⟩) hlo _).setCell (p := ⟨g9, 1, none⟩) hlo _).setCell (p := ⟨g9, 2, none⟩) hlo _)⟩⟩⟩
          intro d s W hJ hd
          obtain ⟨h0, h1, h2, h3, h4, h5, h6, h7, h8, x0, x1, x2, x3, x4, x5, hT⟩ := hJ
          obtain ⟨⟨gP, hsP, hBP, hlP⟩, hBl⟩ := hT.2 (hd 9 (by decide))
          have HP1 := Lib.hid hBP
          have HLp := Lib.hid hlP
          have HBq := Lib.hid hBl
          clear h0 h1 h2 h3 h4 h5 h6 h7 h8 x0 x1 x2 x3 x4 x5 hT hd hBP hlP hBl
          simp [setAll, hsP]
          clear hsP
          generalize s 109 = s109
          generalize s 110 = s110
          generalize s 111 = s111
          generalize s 112 = s112
          generalize s 113 = s113
          generalize s 114 = s114
          generalize s 115 = s115
          generalize s 116 = s116
          generalize W = wj at *
          have HEk := Lib.hid (HEj.out.below HBq.out)
          have HSk := Lib.hid (HSj.out.below HBq.out)
          have HGk := Lib.hid (HGj.out.below HBq.out)
          have HBk := Lib.hid (below_nx HBj.out HBq.out)
          have HNp := Lib.hid (show gP ≠ gE ∧ gP ≠ gS ∧ gP ≠ gG from ⟨by have := HEj.out.lt; have := HLp.out; omega, by have := HSj.out.lt; have := HLp.out; omega, by have := HGj.out.lt; have := HLp.out; omega⟩)
          obtain ⟨ng1, A1, n1, c1', E1, hK1, hD1⟩ := bx_open HEk.out
          obtain ⟨ng3, A3, n3, c3', E3, hK3, hD3⟩ := bx_open HP1.out
          have HD13 := Lib.hid (And.intro (hD1 _ (Below.refl _ _)) (hD3 _ (Below.refl _ _)))
          have HK1 := Lib.hid hK1
          have HK3 := Lib.hid hK3
          clear hD1 hD3 hK1 hK3
          obtain ⟨e0, e1, e2⟩ := cells3 HK1.out
          obtain ⟨f0, f1, f2⟩ := cells3 HK3.out
          go_wp2_with fail
          refine (radd_v HD13.out.1 HD13.out.2 HSz.out.2.2.2.2.2.1 HSz.out.2.2.1).mono ?_
          rintro e wk ⟨v9, rfl, hv, hb⟩
          obtain ⟨ng9, A9, n9, c9, E9, L9, rfl, gR, gN, gd⟩ := hv
          have hKk := HK1.out.nxt hb
          have HE2 := Lib.hid (bx_store hKk gR gN gd)
          have HS2' := Lib.hid ((HSk.out.below hb).far3 (fun e => HES.out.1 e.symm) hKk (.bool ng9) (.slice A9 n9 c9) (.int .i64 E9))
          have HG2' := Lib.hid ((HGk.out.below hb).far3 (fun e => HES.out.2.1 e.symm) hKk (.bool ng9) (.slice A9 n9 c9) (.int .i64 E9))
          have HP2 := Lib.hid ((HP1.out.below hb).far3 HNp.out.1 hKk (.bool ng9) (.slice A9 n9 c9) (.int .i64 E9))
          have HB2' := Lib.hid ((((below_nx HBk.out hb).setCell (p := ⟨gE, 0, none⟩) HLo6.out.1 (.bool ng9)).setCell (p := ⟨gE, 1, none⟩) HLo6.out.1 (.slice A9 n9 c9)).setCell (p := ⟨gE, 2, none⟩) HLo6.out.1 (.int .i64 E9))
          clear e0 e1 e2 f0 f1 f2
          obtain ⟨e0, e1, e2⟩ := cells3 hKk
          have f0 := hKk.frozen 0
          have f1 := hKk.frozen 1
          have f2 := hKk.frozen 2
          clear hb gR gN gd hKk
          go_upto_region 25 with fail
          generalize (((wk.setCell ⟨gE, 0, none⟩ (.bool ng9)).setCell ⟨gE, 1, none⟩ (.slice A9 n9 c9)).setCell ⟨gE, 2, none⟩ (.int .i64 E9)) = wl at *
          obtain ⟨ng2, A2, n2, c2, E2, hKs, hDs⟩ := bx_open HS2'.out
          obtain ⟨ng3, A3, n3, c3, E3, hKp, hDp⟩ := bx_open HP2.out
          have HKs := Lib.hid hKs
          have HKp := Lib.hid hKp
          have HDs := Lib.hid hDs
          have HDp := Lib.hid hDp
          clear hKs hKp hDs hDp e0 e1 e2 f0 f1 f2
          refine wp_region_inv [120, 121, 122, 123] (fun d s W => (d 0 = true → s 120 = .agg #[.bool ng2, .slice A2 n2 c2, .int .i64 E2]) ∧ (d 1 = true → s 121 = .agg #[.bool ng3, .slice A3 n3 c3, .int .i64 E3]) ∧ (d 2 = true → DV W (s 122) (dabs (fdy tv * fdy xv))) ∧ (d 3 = true → DV W (s 123) (SJ + dabs (fdy tv * fdy xv))) ∧ (d 2 = true → d 1 = true) ∧ (d 3 = true → d 0 = true ∧ d 1 = true ∧ d 2 = true) ∧ (d 4 = true → d 0 = true ∧ d 1 = true ∧ d 2 = true ∧ d 3 = true) ∧ ((d 4 = false → Below wl.heap.size wl W) ∧ (d 4 = true → Bx W gS (SJ + dabs (fdy tv * fdy xv)) ∧ Chg [gS] wl W)))
            rfl (by kernel_rfl) ?_ ?_ ?_
          · exact ⟨by simp, by simp, by simp, by simp, by simp, by simp, by simp, ⟨fun _ => (Below.refl _ _).drew, fun h => by simp at h⟩⟩
          · refine ⟨?_, ?_, ?_, ?_, ?_, trivial⟩
            all_goals
              intro d s W hJ hfr hd hdep
              simp only [List.mem_cons, forall_eq_or_imp, List.not_mem_nil, false_implies, implies_true, and_true, Region.binds] at hdep
              have f14 := hfr 14 (by decide)
              have f19 := hfr 19 (by decide)
              simp at f14 f19 hdep
              obtain ⟨h0, h1, h2, h3, x0, x1, x2, hT⟩ := hJ
            · have hl : d 4 = false := by
                cases h : d 4
                · rfl
                · have := x2 h; simp [hd] at this
              replace hT := hT.1 hl
              unfold OpSteps
              obtain ⟨p0, p1, p2⟩ := cells3 (HKs.out.below hT HKs.out.lt)
              simp [go_sem, evS, f14, p0, p1, p2]
              exact ⟨fun _ => by simp [sput], fun h => by simpa [sput] using h1 (by simpa [did] using h), fun h => by simpa [sput] using h2 (by simpa [did] using h), fun h => by simpa [sput] using h3 (by simpa [did] using h), fun h => by have := x0 (by simpa [did] using h); simp [did, this], fun h => by have := x1 (by simpa [did] using h); simp [did, this], fun h => by have := x2 (by simpa [did] using h); simp [did, this], ⟨fun _ => hT, fun h => by simp [did, hl] at h⟩⟩
            · have hl : d 4 = false := by
                cases h : d 4
                · rfl
                · have := x2 h; simp [hd] at this
              replace hT := hT.1 hl
              unfold OpSteps
              obtain ⟨p0, p1, p2⟩ := cells3 (HKp.out.below hT HKp.out.lt)
              simp [go_sem, evS, f19, p0, p1, p2]
              exact ⟨fun h => by simpa [sput] using h0 (by simpa [did] using h), fun _ => by simp [sput], fun h => by simpa [sput] using h2 (by simpa [did] using h), fun h => by simpa [sput] using h3 (by simpa [did] using h), fun h => by have := x0 (by simpa [did] using h); simp [did, this], fun h => by have := x1 (by simpa [did] using h); simp [did, this], fun h => by have := x2 (by simpa [did] using h); simp [did, this], ⟨fun _ => hT, fun h => by simp [did, hl] at h⟩⟩
            · have hl : d 4 = false := by
                cases h : d 4
                · rfl
                · have := x2 h; simp [hd] at this
              replace hT := hT.1 hl
              have fz1 := h1 (by simp [hdep])
              unfold OpSteps
              simp [go_sem, evS, fz1]
              refine (rabs_v (HDp.out W hT)).mono ?_
              rintro e W' ⟨v9, rfl, hv, hb⟩
              refine ⟨_, rfl, ?_⟩
              exact ⟨fun h => by simpa [sput] using h0 (by simpa [did] using h), fun h => by simpa [sput] using h1 (by simpa [did] using h), fun _ => by simpa [sput] using hv, fun h => by simpa [sput] using (h3 (by simpa [did] using h)).below hb, fun _ => by simp [did, hdep], fun h => by have := x1 (by simpa [did] using h); simp [did, this], fun h => by have := x2 (by simpa [did] using h); simp [did, this], ⟨fun _ => below_nx hT hb, fun h => by simp [did, hl] at h⟩⟩
            · have hl : d 4 = false := by
                cases h : d 4
                · rfl
                · have := x2 h; simp [hd] at this
              replace hT := hT.1 hl
              have fz0 := h0 (by simp [hdep])
              have fz2 := h2 (by simp [hdep])
              unfold OpSteps
              simp [go_sem, evS, fz0]
              refine (radd_v (HDs.out W hT) fz2 HSz.out.2.2.2.1 HSz.out.2.2.2.2.1).mono ?_
              rintro e W' ⟨v9, rfl, hv, hb⟩
              refine ⟨_, rfl, ?_⟩
              exact ⟨fun h => by simpa [sput] using h0 (by simpa [did] using h), fun h => by simpa [sput] using h1 (by simpa [did] using h), fun h => by simpa [sput] using (h2 (by simpa [did] using h)).below hb, fun _ => by simpa [sput] using hv, fun h => by have := x0 (by simpa [did] using h); simp [did, this], fun _ => by have y2 := x0 (by simp [hdep]); simp [did, hdep, y2], fun h => by have := x2 (by simpa [did] using h); simp [did, this], ⟨fun _ => below_nx hT hb, fun h => by simp [did, hl] at h⟩⟩
            · have fz3 := h3 (by simp [hdep])
              unfold OpSteps
              replace hT := hT.1 hd
              obtain ⟨ng, A9, n9, c9, E9, L9, gv, gR, gN, gd⟩ := fz3
              have hB9 := HKs.out.below hT HKs.out.lt
              have fr0 := hB9.frozen 0
              have fr1 := hB9.frozen 1
              have fr2 := hB9.frozen 2
              obtain ⟨k0, k1, k2⟩ := cells3 hB9
              simp [go_sem, evS, f14, gv, fr0, fr1, fr2, k0, k1, k2]
              exact ⟨fun h => by simpa [sput] using h0 (by simpa [did] using h), fun h => by simpa [sput] using h1 (by simpa [did] using h), fun h => by simpa [sput] using (h2 (by simpa [did] using h)).far3 hB9 _ _ _, fun h => by simpa [sput] using (h3 (by simpa [did] using h)).far3 hB9 _ _ _, fun h => by have := x0 (by simpa [did] using h); simp [did, this], fun h => by have := x1 (by simpa [did] using h); simp [did, this], fun _ => by have y3 := x1 (by simp [hdep]); simp [did, hdep, y3], ⟨fun h => by simp [did] at h, fun _ => ⟨bx_store hB9 gR gN gd, (((Chg.of_below hT).set_in (by simp) _).set_in (by simp) _).set_in (by simp) _⟩⟩⟩
          intro d s W hJ hd
          obtain ⟨h0, h1, h2, h3, x0, x1, x2, hT⟩ := hJ
          obtain ⟨hBS, hcS⟩ := hT.2 (hd 4 (by decide))
          have HS2 := Lib.hid hBS
          have HCS := Lib.hid hcS
          clear h0 h1 h2 h3 x0 x1 x2 hT hd hBS hcS
          simp [setAll]
          generalize s 120 = s120
          generalize s 121 = s121
          generalize s 122 = s122
          generalize s 123 = s123
          generalize W = wm at *
          have HE3 := Lib.hid (HE2.out.chg HES.out.1 HKs.out (by decide) HCS.out)
          have HG3 := Lib.hid (HG2'.out.chg (fun e => HES.out.2.2 e.symm) HKs.out (by decide) HCS.out)
          have HB3' := Lib.hid (HCS.out.below HB2'.out HB2'.out.size (by intro g hg; simp at hg; subst hg; exact HLo6.out.2.1))
          by_cases hij : i = j
          · have q1 : ((i : Int) == (j : Int)) = true := by simp [hij]
            have HNg := Lib.hid (HN1.out.2.2.1 hij)
            obtain ⟨ng6, A6, n6, c6, E6, hKg, hDg⟩ := bx_open HG3.out
            have HKg := Lib.hid hKg
            have HDg := Lib.hid hDg
            clear hKg hDg hij
            go_wp2_with fail
            refine wp_region_inv [127, 128, 129, 130, 131] (fun d s W => (d 0 = true → s 127 = .agg #[.bool ng6, .slice A6 n6 c6, .int .i64 E6]) ∧ (d 1 = true → s 128 = .float .f64 tv) ∧ (d 2 = true → DV W (s 129) (fdy tv)) ∧ (d 3 = true → DV W (s 130) (dabs (fdy tv))) ∧ (d 4 = true → DV W (s 131) (GJ + dabs (fdy tv))) ∧ (d 2 = true → d 1 = true) ∧ (d 3 = true → d 1 = true ∧ d 2 = true) ∧ (d 4 = true → d 0 = true ∧ d 1 = true ∧ d 2 = true ∧ d 3 = true) ∧ (d 5 = true → d 0 = true ∧ d 1 = true ∧ d 2 = true ∧ d 3 = true ∧ d 4 = true) ∧ ((d 5 = false → Below wm.heap.size wm W) ∧ (d 5 = true → Bx W gG (GJ + dabs (fdy tv)) ∧ Chg [gG] wm W)))
              rfl (by kernel_rfl) ?_ ?_ ?_
            · exact ⟨by simp, by simp, by simp, by simp, by simp, by simp, by simp, by simp, by simp, ⟨fun _ => (Below.refl _ _).drew, fun h => by simp at h⟩⟩
            · refine ⟨?_, ?_, ?_, ?_, ?_, ?_, trivial⟩
              all_goals
                intro d s W hJ hfr hd hdep
                simp only [List.mem_cons, forall_eq_or_imp, List.not_mem_nil, false_implies, implies_true, and_true, Region.binds] at hdep
                have f15 := hfr 15 (by decide)
                have f17 := hfr 17 (by decide)
                simp at f15 f17 hdep
                obtain ⟨h0, h1, h2, h3, h4, x0, x1, x2, x3, hT⟩ := hJ
              · have hl : d 5 = false := by
                  cases h : d 5
                  · rfl
                  · have := x3 h; simp [hd] at this
                replace hT := hT.1 hl
                unfold OpSteps
                obtain ⟨p0, p1, p2⟩ := cells3 (HKg.out.below hT HKg.out.lt)
                simp [go_sem, evS, f15, p0, p1, p2]
                exact ⟨fun _ => by simp [sput], fun h => by simpa [sput] using h1 (by simpa [did] using h), fun h => by simpa [sput] using h2 (by simpa [did] using h), fun h => by simpa [sput] using h3 (by simpa [did] using h), fun h => by simpa [sput] using h4 (by simpa [did] using h), fun h => by have := x0 (by simpa [did] using h); simp [did, this], fun h => by have := x1 (by simpa [did] using h); simp [did, this], fun h => by have := x2 (by simpa [did] using h); simp [did, this], fun h => by have := x3 (by simpa [did] using h); simp [did, this], ⟨fun _ => hT, fun h => by simp [did, hl] at h⟩⟩
              · have hl : d 5 = false := by
                  cases h : d 5
                  · rfl
                  · have := x3 h; simp [hd] at this
                replace hT := hT.1 hl
                unfold OpSteps
                simp [go_sem, evS, f17]
                exact ⟨fun h => by simpa [sput] using h0 (by simpa [did] using h), fun _ => by simp [sput], fun h => by simpa [sput] using h2 (by simpa [did] using h), fun h => by simpa [sput] using h3 (by simpa [did] using h), fun h => by simpa [sput] using h4 (by simpa [did] using h), fun h => by have := x0 (by simpa [did] using h); simp [did, this], fun h => by have := x1 (by simpa [did] using h); simp [did, this], fun h => by have := x2 (by simpa [did] using h); simp [did, this], fun h => by have := x3 (by simpa [did] using h); simp [did, this], ⟨fun _ => hT, fun h => by simp [did, hl] at h⟩⟩
              · have hl : d 5 = false := by
                  cases h : d 5
                  · rfl
                  · have := x3 h; simp [hd] at this
                replace hT := hT.1 hl
                have fz1 := h1 (by simp [hdep])
                unfold OpSteps
                simp [go_sem, evS, fz1]
                refine (rof_v tv W HFt.out.1 HFt.out.2).mono ?_
                rintro e W' ⟨v9, rfl, hv, hb⟩
                refine ⟨_, rfl, ?_⟩
                exact ⟨fun h => by simpa [sput] using h0 (by simpa [did] using h), fun h => by simpa [sput] using h1 (by simpa [did] using h), fun _ => by simpa [sput] using hv, fun h => by simpa [sput] using (h3 (by simpa [did] using h)).below hb, fun h => by simpa [sput] using (h4 (by simpa [did] using h)).below hb, fun _ => by simp [did, hdep], fun h => by have := x1 (by simpa [did] using h); simp [did, this], fun h => by have := x2 (by simpa [did] using h); simp [did, this], fun h => by have := x3 (by simpa [did] using h); simp [did, this], ⟨fun _ => below_nx hT hb, fun h => by simp [did, hl] at h⟩⟩
              · have hl : d 5 = false := by
                  cases h : d 5
                  · rfl
                  · have := x3 h; simp [hd] at this
                replace hT := hT.1 hl
                have fz2 := h2 (by simp [hdep])
                unfold OpSteps
                simp [go_sem, evS]
                refine (rabs_v fz2).mono ?_
                rintro e W' ⟨v9, rfl, hv, hb⟩
                refine ⟨_, rfl, ?_⟩
                exact ⟨fun h => by simpa [sput] using h0 (by simpa [did] using h), fun h => by simpa [sput] using h1 (by simpa [did] using h), fun h => by simpa [sput] using (h2 (by simpa [did] using h)).below hb, fun _ => by simpa [sput] using hv, fun h => by simpa [sput] using (h4 (by simpa [did] using h)).below hb, fun h => by have := x0 (by simpa [did] using h); simp [did, this], fun _ => by have y2 := x0 (by simp [hdep]); simp [did, hdep, y2], fun h => by have := x2 (by simpa [did] using h); simp [did, this], fun h => by have := x3 (by simpa [did] using h); simp [did, this], ⟨fun _ => below_nx hT hb, fun h => by simp [did, hl] at h⟩⟩
              · have hl : d 5 = false := by
                  cases h : d 5
                  · rfl
                  · have := x3 h; simp [hd] at this
                replace hT := hT.1 hl
                have fz0 := h0 (by simp [hdep])
                have fz3 := h3 (by simp [hdep])
                unfold OpSteps
                simp [go_sem, evS, fz0]
                refine (radd_v (HDg.out W hT) fz3 HSz.out.2.2.2.2.2.2.1 HSz.out.2.2.2.2.2.2.2).mono ?_
                rintro e W' ⟨v9, rfl, hv, hb⟩
                refine ⟨_, rfl, ?_⟩
                exact ⟨fun h => by simpa [sput] using h0 (by simpa [did] using h), fun h => by simpa [sput] using h1 (by simpa [did] using h), fun h => by simpa [sput] using (h2 (by simpa [did] using h)).below hb, fun h => by simpa [sput] using (h3 (by simpa [did] using h)).below hb, fun _ => by simpa [sput] using hv, fun h => by have := x0 (by simpa [did] using h); simp [did, this], fun h => by have := x1 (by simpa [did] using h); simp [did, this], fun _ => by have y3 := x1 (by simp [hdep]); simp [did, hdep, y3], fun h => by have := x3 (by simpa [did] using h); simp [did, this], ⟨fun _ => below_nx hT hb, fun h => by simp [did, hl] at h⟩⟩
              · have fz4 := h4 (by simp [hdep])
                unfold OpSteps
                replace hT := hT.1 hd
                obtain ⟨ng, A9, n9, c9, E9, L9, gv, gR, gN, gd⟩ := fz4
                have hB9 := HKg.out.below hT HKg.out.lt
                have fr0 := hB9.frozen 0
                have fr1 := hB9.frozen 1
                have fr2 := hB9.frozen 2
                obtain ⟨k0, k1, k2⟩ := cells3 hB9
                simp [go_sem, evS, f15, gv, fr0, fr1, fr2, k0, k1, k2]
                exact ⟨fun h => by simpa [sput] using h0 (by simpa [did] using h), fun h => by simpa [sput] using h1 (by simpa [did] using h), fun h => by simpa [sput] using (h2 (by simpa [did] using h)).far3 hB9 _ _ _, fun h => by simpa [sput] using (h3 (by simpa [did] using h)).far3 hB9 _ _ _, fun h => by simpa [sput] using (h4 (by simpa [did] using h)).far3 hB9 _ _ _, fun h => by have := x0 (by simpa [did] using h); simp [did, this], fun h => by have := x1 (by simpa [did] using h); simp [did, this], fun h => by have := x2 (by simpa [did] using h); simp [did, this], fun _ => by have y4 := x2 (by simp [hdep]); simp [did, hdep, y4], ⟨fun h => by simp [did] at h, fun _ => ⟨bx_store hB9 gR gN gd, (((Chg.of_below hT).set_in (by simp) _).set_in (by simp) _).set_in (by simp) _⟩⟩⟩
            intro d s W hJ hd
            obtain ⟨h0, h1, h2, h3, h4, x0, x1, x2, x3, hT⟩ := hJ
            obtain ⟨hBG, hcG⟩ := hT.2 (hd 5 (by decide))
            have HG2 := Lib.hid hBG
            have HCG := Lib.hid hcG
            clear h0 h1 h2 h3 h4 x0 x1 x2 x3 hT hd hBG hcG
            simp [setAll]
            generalize s 127 = s127
            generalize s 128 = s128
            generalize s 129 = s129
            generalize s 130 = s130
            generalize s 131 = s131
            generalize W = wq at *
            have HE4 := Lib.hid (HE3.out.chg HES.out.2.1 HKg.out (by decide) HCG.out)
            have HS4 := Lib.hid (HS2.out.chg HES.out.2.2 HKg.out (by decide) HCG.out)
            have HB4' := Lib.hid (HCG.out.below HB3'.out HB3'.out.size (by intro g hg; simp at hg; subst hg; exact HLo6.out.2.2))
            go_wp2_with fail
            go_roundw
            case rel => exact ⟨j + 1, by omega, by go_num, Lib.hid ⟨by rw [HN1.out.1]; exact HE4.out, by rw [HN1.out.2.1]; exact HS4.out, by rw [HNg.out]; exact HG2.out, HB4'.out⟩⟩
            case measure => simp [intOf] <;> omega
          · have q1 : ((i : Int) == (j : Int)) = false := by simp; omega
            have q2 : ¬ (i : Int) = (j : Int) := by omega
            have HNg := Lib.hid (HN1.out.2.2.2 hij)
            clear hij
            go_wp2_with fail
            go_roundw
            case rel => exact ⟨j + 1, by omega, by go_num, Lib.hid ⟨by rw [HN1.out.1]; exact HE3.out, by rw [HN1.out.2.1]; exact HS2.out, by rw [HNg.out]; exact HG3.out, HB3'.out⟩⟩
            case measure => simp [intOf] <;> omega
        · obtain rfl : n = j := by omega
          have hjc : ¬ (n : Int) < (n : Int) := by omega
          have hn10 : n ≤ 10 := HLn.out.2.2
          have hE := HEi.out n (Nat.le_refl _)
          have hZ := HPi.out
          have hEH := HH.out.1
          have hSH := HH.out.2.1
          have hGH := HH.out.2.2.1
          obtain ⟨EN, hEN⟩ : ∃ EN, EXd Tk bv vf F n = EN := ⟨_, rfl⟩
          obtain ⟨SN, hSN⟩ : ∃ SN, SXd Tk vf F n = SN := ⟨_, rfl⟩
          obtain ⟨GN, hGN⟩ : ∃ GN, GXd Tk i vf n = GN := ⟨_, rfl⟩
          rw [hEN, hSN, hGN] at hZ hE
          rw [hEN] at hEH
          rw [hSN] at hSH
          rw [hGN] at hGH
          obtain ⟨ZZ, hZ1, hZ2⟩ := hZ
          have hfi : Fitd SN ∧ Fitd GN ∧ Fitd (SN * dy 1 (-51)) ∧ Fitd (GN * dy 1 (-1060)) ∧ Fitd (SN * dy 1 (-51) + GN * dy 1 (-1060)) ∧ Fitd (dy ((n : Int) + 1) 0) ∧ Fitd (dabs EN) ∧ Fitd ((SN * dy 1 (-51) + GN * dy 1 (-1060)) * dy ((n : Int) + 1) 0) := by
            have s1 : Sz 2161 SN := hE.1.2.mono (by omega)
            have s2 : Sz 1100 GN := hE.2.mono (by omega)
            have s3 : Sz 2300 (SN * dy 1 (-51)) := s1.shift (-51) (by decide)
            have s4 : Sz 2300 (GN * dy 1 (-1060)) := s2.shift (-1060) (by decide)
            have s5 : Sz 2400 (SN * dy 1 (-51) + GN * dy 1 (-1060)) := Sz.add s3 s4 (by omega) (by omega)
            have s6 : Sz 10 (dy ((n : Int) + 1) 0) := Sz.int (by omega)
            have s7 : Sz 2500 ((SN * dy 1 (-51) + GN * dy 1 (-1060)) * dy ((n : Int) + 1) 0) := s5.mul s6 (by omega)
            have s9 : Sz 2161 EN := hE.1.1.mono (by omega)
            exact ⟨s1.fit (by omega), s2.fit (by omega), s3.fit (by omega), s4.fit (by omega), s5.fit (by omega), s6.fit (by omega), s9.abs.fit (by omega), s7.fit (by omega)⟩
          have hsgn : Int.sign ZZ ≤ 0 := Int.sign_nonpos_iff.2 hZ2
          have hsg : decide ((0 : Int) < Int.sign ZZ) = false := by simp; omega
          have hz0 := hZ2
          have HFi := Lib.hid hfi
          have HZZ := Lib.hid (And.intro hZ1 trivial)
          have HEn := Lib.hid hEH
          have HBn := Lib.hid HH.out.2.2.2
          obtain ⟨ng2, A2, n2, c2, E2, hKs, hDs⟩ := bx_open hSH
          obtain ⟨ng6, A6, n6, c6, E6, hKg, hDg⟩ := bx_open hGH
          have HKs := Lib.hid hKs
          have HDs := Lib.hid hDs
          have HKg := Lib.hid hKg
          have HDg := Lib.hid hDg
          have hw1 := HW1.out
          clear hE hZ1 hZ2 hEH hSH hGH hfi hsgn hKs hDs hKg hDg hEN hSN hGN
          go_wp2_with fail
          refine wp_region_inv [132, 133, 134, 135, 136, 137, 138, 139, 140, 20] (fun d s W => (d 0 = true → s 132 = .agg #[.bool ng2, .slice A2 n2 c2, .int .i64 E2]) ∧ (d 1 = true → DV W (s 133) (SN * dy 1 (-51))) ∧ (d 2 = true → s 134 = .agg #[.bool ng6, .slice A6 n6 c6, .int .i64 E6]) ∧ (d 3 = true → DV W (s 135) (GN * dy 1 (-1060))) ∧ (d 4 = true → DV W (s 136) (SN * dy 1 (-51) + GN * dy 1 (-1060))) ∧ (d 5 = true → s 137 = .int .i64 (n : Int)) ∧ (d 6 = true → s 138 = .int .i64 ((n : Int) + 1)) ∧ (d 7 = true → DV W (s 139) (dy ((n : Int) + 1) 0)) ∧ (d 8 = true → DV W (s 140) ((SN * dy 1 (-51) + GN * dy 1 (-1060)) * dy ((n : Int) + 1) 0)) ∧ (d 9 = true → NewB W (s 20) wr.heap.size) ∧ (d 1 = true → d 0 = true) ∧ (d 3 = true → d 2 = true) ∧ (d 4 = true → d 0 = true ∧ d 1 = true ∧ d 2 = true ∧ d 3 = true) ∧ (d 6 = true → d 5 = true) ∧ (d 7 = true → d 5 = true ∧ d 6 = true) ∧ (d 8 = true → d 0 = true ∧ d 1 = true ∧ d 2 = true ∧ d 3 = true ∧ d 4 = true ∧ d 5 = true ∧ d 6 = true ∧ d 7 = true) ∧ (d 10 = true → d 0 = true ∧ d 1 = true ∧ d 2 = true ∧ d 3 = true ∧ d 4 = true ∧ d 5 = true ∧ d 6 = true ∧ d 7 = true ∧ d 8 = true ∧ d 9 = true) ∧ ((d 10 = false → Below wr.heap.size wr W) ∧ (d 10 = true → BxP W (s 20) wr.heap.size ((SN * dy 1 (-51) + GN * dy 1 (-1060)) * dy ((n : Int) + 1) 0) ∧ Below wr.heap.size wr W)))
            rfl (by kernel_rfl) ?_ ?_ ?_
          · exact ⟨by simp, by simp, by simp, by simp, by simp, by simp, by simp, by simp, by simp, by simp, by simp, by simp, by simp, by simp, by simp, by simp, by simp, ⟨fun _ => (Below.refl _ _).drew, fun h => by simp at h⟩⟩
          · refine ⟨?_, ?_, ?_, ?_, ?_, ?_, ?_, ?_, ?_, ?_, ?_, trivial⟩
            all_goals
              intro d s W hJ hfr hd hdep
              simp only [List.mem_cons, forall_eq_or_imp, List.not_mem_nil, false_implies, implies_true, and_true, Region.binds] at hdep
              have f7 := hfr 7 (by decide)
              have f14 := hfr 14 (by decide)
              have f15 := hfr 15 (by decide)
              simp at f7 f14 f15 hdep
              obtain ⟨h0, h1, h2, h3, h4, h5, h6, h7, h8, h9, x0, x1, x2, x3, x4, x5, x6, hT⟩ := hJ
            · have hl : d 10 = false := by
                cases h : d 10
                · rfl
                · have := x6 h; simp [hd] at this
              replace hT := hT.1 hl
              unfold OpSteps
              obtain ⟨p0, p1, p2⟩ := cells3 (HKs.out.below hT HKs.out.lt)
              simp [go_sem, evS, f14, p0, p1, p2]
              exact ⟨fun _ => by simp [sput], fun h => by simpa [sput] using h1 (by simpa [did] using h), fun h => by simpa [sput] using h2 (by simpa [did] using h), fun h => by simpa [sput] using h3 (by simpa [did] using h), fun h => by simpa [sput] using h4 (by simpa [did] using h), fun h => by simpa [sput] using h5 (by simpa [did] using h), fun h => by simpa [sput] using h6 (by simpa [did] using h), fun h => by simpa [sput] using h7 (by simpa [did] using h), fun h => by simpa [sput] using h8 (by simpa [did] using h), fun h => by simpa [sput] using h9 (by simpa [did] using h), fun h => by have := x0 (by simpa [did] using h); simp [did, this], fun h => by have := x1 (by simpa [did] using h); simp [did, this], fun h => by have := x2 (by simpa [did] using h); simp [did, this], fun h => by have := x3 (by simpa [did] using h); simp [did, this], fun h => by have := x4 (by simpa [did] using h); simp [did, this], fun h => by have := x5 (by simpa [did] using h); simp [did, this], fun h => by have := x6 (by simpa [did] using h); simp [did, this], ⟨fun _ => hT, fun h => by simp [did, hl] at h⟩⟩
            · have hl : d 10 = false := by
                cases h : d 10
                · rfl
                · have := x6 h; simp [hd] at this
              replace hT := hT.1 hl
              have fz0 := h0 (by simp [hdep])
              unfold OpSteps
              simp [go_sem, evS, fz0]
              refine (rshift_v (-51) (by decide) (HDs.out W hT) HFi.out.1).mono ?_
              rintro e W' ⟨v9, rfl, hv, hb⟩
              refine ⟨_, rfl, ?_⟩
              exact ⟨fun h => by simpa [sput] using h0 (by simpa [did] using h), fun _ => by simpa [sput] using hv, fun h => by simpa [sput] using h2 (by simpa [did] using h), fun h => by simpa [sput] using (h3 (by simpa [did] using h)).below hb, fun h => by simpa [sput] using (h4 (by simpa [did] using h)).below hb, fun h => by simpa [sput] using h5 (by simpa [did] using h), fun h => by simpa [sput] using h6 (by simpa [did] using h), fun h => by simpa [sput] using (h7 (by simpa [did] using h)).below hb, fun h => by simpa [sput] using (h8 (by simpa [did] using h)).below hb, fun h => by simpa [sput] using (h9 (by simpa [did] using h)).below hb, fun _ => by simp [did, hdep], fun h => by have := x1 (by simpa [did] using h); simp [did, this], fun h => by have := x2 (by simpa [did] using h); simp [did, this], fun h => by have := x3 (by simpa [did] using h); simp [did, this], fun h => by have := x4 (by simpa [did] using h); simp [did, this], fun h => by have := x5 (by simpa [did] using h); simp [did, this], fun h => by have := x6 (by simpa [did] using h); simp [did, this], ⟨fun _ => below_nx hT hb, fun h => by simp [did, hl] at h⟩⟩
            · have hl : d 10 = false := by
                cases h : d 10
                · rfl
                · have := x6 h; simp [hd] at this
              replace hT := hT.1 hl
              unfold OpSteps
              obtain ⟨p0, p1, p2⟩ := cells3 (HKg.out.below hT HKg.out.lt)
              simp [go_sem, evS, f15, p0, p1, p2]
              exact ⟨fun h => by simpa [sput] using h0 (by simpa [did] using h), fun h => by simpa [sput] using h1 (by simpa [did] using h), fun _ => by simp [sput], fun h => by simpa [sput] using h3 (by simpa [did] using h), fun h => by simpa [sput] using h4 (by simpa [did] using h), fun h => by simpa [sput] using h5 (by simpa [did] using h), fun h => by simpa [sput] using h6 (by simpa [did] using h), fun h => by simpa [sput] using h7 (by simpa [did] using h), fun h => by simpa [sput] using h8 (by simpa [did] using h), fun h => by simpa [sput] using h9 (by simpa [did] using h), fun h => by have := x0 (by simpa [did] using h); simp [did, this], fun h => by have := x1 (by simpa [did] using h); simp [did, this], fun h => by have := x2 (by simpa [did] using h); simp [did, this], fun h => by have := x3 (by simpa [did] using h); simp [did, this], fun h => by have := x4 (by simpa [did] using h); simp [did, this], fun h => by have := x5 (by simpa [did] using h); simp [did, this], fun h => by have := x6 (by simpa [did] using h); simp [did, this], ⟨fun _ => hT, fun h => by simp [did, hl] at h⟩⟩
            · have hl : d 10 = false := by
                cases h : d 10
                · rfl
                · have := x6 h; simp [hd] at this
              replace hT := hT.1 hl
              have fz2 := h2 (by simp [hdep])
              unfold OpSteps
              simp [go_sem, evS, fz2]
              refine (rshift_v (-1060) (by decide) (HDg.out W hT) HFi.out.2.1).mono ?_
              rintro e W' ⟨v9, rfl, hv, hb⟩
              refine ⟨_, rfl, ?_⟩
              exact ⟨fun h => by simpa [sput] using h0 (by simpa [did] using h), fun h => by simpa [sput] using (h1 (by simpa [did] using h)).below hb, fun h => by simpa [sput] using h2 (by simpa [did] using h), fun _ => by simpa [sput] using hv, fun h => by simpa [sput] using (h4 (by simpa [did] using h)).below hb, fun h => by simpa [sput] using h5 (by simpa [did] using h), fun h => by simpa [sput] using h6 (by simpa [did] using h), fun h => by simpa [sput] using (h7 (by simpa [did] using h)).below hb, fun h => by simpa [sput] using (h8 (by simpa [did] using h)).below hb, fun h => by simpa [sput] using (h9 (by simpa [did] using h)).below hb, fun h => by have := x0 (by simpa [did] using h); simp [did, this], fun _ => by simp [did, hdep], fun h => by have := x2 (by simpa [did] using h); simp [did, this], fun h => by have := x3 (by simpa [did] using h); simp [did, this], fun h => by have := x4 (by simpa [did] using h); simp [did, this], fun h => by have := x5 (by simpa [did] using h); simp [did, this], fun h => by have := x6 (by simpa [did] using h); simp [did, this], ⟨fun _ => below_nx hT hb, fun h => by simp [did, hl] at h⟩⟩
            · have hl : d 10 = false := by
                cases h : d 10
                · rfl
                · have := x6 h; simp [hd] at this
              replace hT := hT.1 hl
              have fz1 := h1 (by simp [hdep])
              have fz3 := h3 (by simp [hdep])
              unfold OpSteps
              simp [go_sem, evS]
              refine (radd_v fz1 fz3 HFi.out.2.2.1 HFi.out.2.2.2.1).mono ?_
              rintro e W' ⟨v9, rfl, hv, hb⟩
              refine ⟨_, rfl, ?_⟩
              exact ⟨fun h => by simpa [sput] using h0 (by simpa [did] using h), fun h => by simpa [sput] using (h1 (by simpa [did] using h)).below hb, fun h => by simpa [sput] using h2 (by simpa [did] using h), fun h => by simpa [sput] using (h3 (by simpa [did] using h)).below hb, fun _ => by simpa [sput] using hv, fun h => by simpa [sput] using h5 (by simpa [did] using h), fun h => by simpa [sput] using h6 (by simpa [did] using h), fun h => by simpa [sput] using (h7 (by simpa [did] using h)).below hb, fun h => by simpa [sput] using (h8 (by simpa [did] using h)).below hb, fun h => by simpa [sput] using (h9 (by simpa [did] using h)).below hb, fun h => by have := x0 (by simpa [did] using h); simp [did, this], fun h => by have := x1 (by simpa [did] using h); simp [did, this], fun _ => by have y1 := x0 (by simp [hdep]); have y3 := x1 (by simp [hdep]); simp [did, hdep, y1, y3], fun h => by have := x3 (by simpa [did] using h); simp [did, this], fun h => by have := x4 (by simpa [did] using h); simp [did, this], fun h => by have := x5 (by simpa [did] using h); simp [did, this], fun h => by have := x6 (by simpa [did] using h); simp [did, this], ⟨fun _ => below_nx hT hb, fun h => by simp [did, hl] at h⟩⟩
            · have hl : d 10 = false := by
                cases h : d 10
                · rfl
                · have := x6 h; simp [hd] at this
              replace hT := hT.1 hl
              unfold OpSteps
              simp [go_sem, evS, f7]
              exact ⟨fun h => by simpa [sput] using h0 (by simpa [did] using h), fun h => by simpa [sput] using h1 (by simpa [did] using h), fun h => by simpa [sput] using h2 (by simpa [did] using h), fun h => by simpa [sput] using h3 (by simpa [did] using h), fun h => by simpa [sput] using h4 (by simpa [did] using h), fun _ => by simp [sput], fun h => by simpa [sput] using h6 (by simpa [did] using h), fun h => by simpa [sput] using h7 (by simpa [did] using h), fun h => by simpa [sput] using h8 (by simpa [did] using h), fun h => by simpa [sput] using h9 (by simpa [did] using h), fun h => by have := x0 (by simpa [did] using h); simp [did, this], fun h => by have := x1 (by simpa [did] using h); simp [did, this], fun h => by have := x2 (by simpa [did] using h); simp [did, this], fun h => by have := x3 (by simpa [did] using h); simp [did, this], fun h => by have := x4 (by simpa [did] using h); simp [did, this], fun h => by have := x5 (by simpa [did] using h); simp [did, this], fun h => by have := x6 (by simpa [did] using h); simp [did, this], ⟨fun _ => hT, fun h => by simp [did, hl] at h⟩⟩
            · have hl : d 10 = false := by
                cases h : d 10
                · rfl
                · have := x6 h; simp [hd] at this
              replace hT := hT.1 hl
              have fz5 := h5 (by simp [hdep])
              unfold OpSteps
              simp [go_sem, evS, fz5, hw1]
              exact ⟨fun h => by simpa [sput] using h0 (by simpa [did] using h), fun h => by simpa [sput] using h1 (by simpa [did] using h), fun h => by simpa [sput] using h2 (by simpa [did] using h), fun h => by simpa [sput] using h3 (by simpa [did] using h), fun h => by simpa [sput] using h4 (by simpa [did] using h), fun h => by simpa [sput] using h5 (by simpa [did] using h), fun _ => by simp [sput, HW2.out], fun h => by simpa [sput] using h7 (by simpa [did] using h), fun h => by simpa [sput] using h8 (by simpa [did] using h), fun h => by simpa [sput] using h9 (by simpa [did] using h), fun h => by have := x0 (by simpa [did] using h); simp [did, this], fun h => by have := x1 (by simpa [did] using h); simp [did, this], fun h => by have := x2 (by simpa [did] using h); simp [did, this], fun _ => by simp [did, hdep], fun h => by have := x4 (by simpa [did] using h); simp [did, this], fun h => by have := x5 (by simpa [did] using h); simp [did, this], fun h => by have := x6 (by simpa [did] using h); simp [did, this], ⟨fun _ => hT, fun h => by simp [did, hl] at h⟩⟩
            · have hl : d 10 = false := by
                cases h : d 10
                · rfl
                · have := x6 h; simp [hd] at this
              replace hT := hT.1 hl
              have fz6 := h6 (by simp [hdep])
              unfold OpSteps
              simp [go_sem, evS, fz6]
              refine (rint_v ((n : Int) + 1) W (by omega) (by omega)).mono ?_
              rintro e W' ⟨v9, rfl, hv, hb⟩
              refine ⟨_, rfl, ?_⟩
              exact ⟨fun h => by simpa [sput] using h0 (by simpa [did] using h), fun h => by simpa [sput] using (h1 (by simpa [did] using h)).below hb, fun h => by simpa [sput] using h2 (by simpa [did] using h), fun h => by simpa [sput] using (h3 (by simpa [did] using h)).below hb, fun h => by simpa [sput] using (h4 (by simpa [did] using h)).below hb, fun h => by simpa [sput] using h5 (by simpa [did] using h), fun h => by simpa [sput] using h6 (by simpa [did] using h), fun _ => by simpa [sput] using hv, fun h => by simpa [sput] using (h8 (by simpa [did] using h)).below hb, fun h => by simpa [sput] using (h9 (by simpa [did] using h)).below hb, fun h => by have := x0 (by simpa [did] using h); simp [did, this], fun h => by have := x1 (by simpa [did] using h); simp [did, this], fun h => by have := x2 (by simpa [did] using h); simp [did, this], fun h => by have := x3 (by simpa [did] using h); simp [did, this], fun _ => by have y6 := x3 (by simp [hdep]); simp [did, hdep, y6], fun h => by have := x5 (by simpa [did] using h); simp [did, this], fun h => by have := x6 (by simpa [did] using h); simp [did, this], ⟨fun _ => below_nx hT hb, fun h => by simp [did, hl] at h⟩⟩
            · have hl : d 10 = false := by
                cases h : d 10
                · rfl
                · have := x6 h; simp [hd] at this
              replace hT := hT.1 hl
              have fz4 := h4 (by simp [hdep])
              have fz7 := h7 (by simp [hdep])
              unfold OpSteps
              simp [go_sem, evS]
              refine (rmul_v fz4 fz7 HFi.out.2.2.2.2.1 HFi.out.2.2.2.2.2.1).mono ?_
              rintro e W' ⟨v9, rfl, hv, hb⟩
              refine ⟨_, rfl, ?_⟩
              exact ⟨fun h => by simpa [sput] using h0 (by simpa [did] using h), fun h => by simpa [sput] using (h1 (by simpa [did] using h)).below hb, fun h => by simpa [sput] using h2 (by simpa [did] using h), fun h => by simpa [sput] using (h3 (by simpa [did] using h)).below hb, fun h => by simpa [sput] using (h4 (by simpa [did] using h)).below hb, fun h => by simpa [sput] using h5 (by simpa [did] using h), fun h => by simpa [sput] using h6 (by simpa [did] using h), fun h => by simpa [sput] using (h7 (by simpa [did] using h)).below hb, fun _ => by simpa [sput] using hv, fun h => by simpa [sput] using (h9 (by simpa [did] using h)).below hb, fun h => by have := x0 (by simpa [did] using h); simp [did, this], fun h => by have := x1 (by simpa [did] using h); simp [did, this], fun h => by have := x2 (by simpa [did] using h); simp [did, this], fun h => by have := x3 (by simpa [did] using h); simp [did, this], fun h => by have := x4 (by simpa [did] using h); simp [did, this], fun _ => by have y4 := x2 (by simp [hdep]); have y7 := x4 (by simp [hdep]); simp [did, hdep, y4, y7], fun h => by have := x6 (by simpa [did] using h); simp [did, this], ⟨fun _ => below_nx hT hb, fun h => by simp [did, hl] at h⟩⟩
            · have hl : d 10 = false := by
                cases h : d 10
                · rfl
                · have := x6 h; simp [hd] at this
              replace hT := hT.1 hl
              unfold OpSteps
              simp [go_sem, evS]
              exact ⟨fun h => by simpa [sput] using h0 (by simpa [did] using h), fun h => by simpa [sput] using (h1 (by simpa [did] using h)).below below_one, fun h => by simpa [sput] using h2 (by simpa [did] using h), fun h => by simpa [sput] using (h3 (by simpa [did] using h)).below below_one, fun h => by simpa [sput] using (h4 (by simpa [did] using h)).below below_one, fun h => by simpa [sput] using h5 (by simpa [did] using h), fun h => by simpa [sput] using h6 (by simpa [did] using h), fun h => by simpa [sput] using (h7 (by simpa [did] using h)).below below_one, fun h => by simpa [sput] using (h8 (by simpa [did] using h)).below below_one, fun _ => ⟨W.heap.size, _, _, _, by simp [sput], Blk.new W _ _, hT.size⟩, fun h => by have := x0 (by simpa [did] using h); simp [did, this], fun h => by have := x1 (by simpa [did] using h); simp [did, this], fun h => by have := x2 (by simpa [did] using h); simp [did, this], fun h => by have := x3 (by simpa [did] using h); simp [did, this], fun h => by have := x4 (by simpa [did] using h); simp [did, this], fun h => by have := x5 (by simpa [did] using h); simp [did, this], fun h => by have := x6 (by simpa [did] using h); simp [did, this], ⟨fun _ => below_al hT, fun h => by simp [did, hl] at h⟩⟩
            · have fz9 := h9 (by simp [hdep])
              have fz8 := h8 (by simp [hdep])
              unfold OpSteps
              replace hT := hT.1 hd
              obtain ⟨g9, z0, z1, z2, gp, hB9, hlo⟩ := fz9
              obtain ⟨ng, A9, n9, c9, E9, L9, gv, gR, gN, gd⟩ := fz8
              have fr0 := hB9.frozen 0
              have fr1 := hB9.frozen 1
              have fr2 := hB9.frozen 2
              obtain ⟨k0, k1, k2⟩ := cells3 hB9
              simp [go_sem, evS, gp, gv, fr0, fr1, fr2, k0, k1, k2]
              exact ⟨fun h => by simpa [sput] using h0 (by simpa [did] using h), fun h => by simpa [sput] using ((((h1 (by simpa [did] using h)).far hB9 (by decide) 0 _).far (hB9.set_ 0 _) (by decide) 1 _).far ((hB9.set_ 0 _).set_ 1 _) (by decide) 2 _), fun h => by simpa [sput] using h2 (by simpa [did] using h), fun h => by simpa [sput] using ((((h3 (by simpa [did] using h)).far hB9 (by decide) 0 _).far (hB9.set_ 0 _) (by decide) 1 _).far ((hB9.set_ 0 _).set_ 1 _) (by decide) 2 _), fun h => by simpa [sput] using ((((h4 (by simpa [did] using h)).far hB9 (by decide) 0 _).far (hB9.set_ 0 _) (by decide) 1 _).far ((hB9.set_ 0 _).set_ 1 _) (by decide) 2 _), fun h => by simpa [sput] using h5 (by simpa [did] using h), fun h => by simpa [sput] using h6 (by simpa [did] using h), fun h => by simpa [sput] using ((((h7 (by simpa [did] using h)).far hB9 (by decide) 0 _).far (hB9.set_ 0 _) (by decide) 1 _).far ((hB9.set_ 0 _).set_ 1 _) (by decide) 2 _), fun h => by simpa [sput] using ((((h8 (by simpa [did] using h)).far hB9 (by decide) 0 _).far (hB9.set_ 0 _) (by decide) 1 _).far ((hB9.set_ 0 _).set_ 1 _) (by decide) 2 _), fun h => ⟨g9, _, _, _, by simpa [sput] using gp, Blk.store3 hB9 _ _ _, hlo⟩, fun h => by have := x0 (by simpa [did] using h); simp [did, this], fun h => by have := x1 (by simpa [did] using h); simp [did, this], fun h => by have := x2 (by simpa [did] using h); simp [did, this], fun h => by have := x3 (by simpa [did] using h); simp [did, this], fun h => by have := x4 (by simpa [did] using h); simp [did, this], fun h => by have := x5 (by simpa [did] using h); simp [did, this], fun _ => by have y8 := x5 (by simp [hdep]); simp [did, hdep, y8], ⟨fun h => by simp [did] at h, fun _ => ⟨⟨g9, by simpa [sput] using gp, bx_store hB9 gR gN gd, hlo⟩, (((hT.setCell (p := ⟨g9, 0, none⟩) hlo _).setCell (p := ⟨g9, 1, none⟩) hlo _).setCell (p := ⟨g9, 2, none⟩) hlo _)⟩⟩⟩
          intro d s W hJ hd
          obtain ⟨h0, h1, h2, h3, h4, h5, h6, h7, h8, h9, x0, x1, x2, x3, x4, x5, x6, hT⟩ := hJ
          obtain ⟨⟨gM9, hsP, hBP, hlP⟩, hBl⟩ := hT.2 (hd 10 (by decide))
          have HM9 := Lib.hid hBP
          have HLm := Lib.hid hlP
          have HBm := Lib.hid hBl
          clear h0 h1 h2 h3 h4 h5 h6 h7 h8 h9 x0 x1 x2 x3 x4 x5 x6 hT hd hBP hlP hBl
          simp [setAll, hsP]
          clear hsP
          generalize s 132 = s132
          generalize s 133 = s133
          generalize s 134 = s134
          generalize s 135 = s135
          generalize s 136 = s136
          generalize s 137 = s137
          generalize s 138 = s138
          generalize s 139 = s139
          generalize s 140 = s140
          generalize W = wn at *
          have HEw := Lib.hid (HEn.out.below HBm.out)
          obtain ⟨ng4, A4, n4, c4, E4, hKe, hDe⟩ := bx_open HEw.out
          obtain ⟨ng5, A5, n5, c5, E5, hKm, hDm⟩ := bx_open HM9.out
          have HKe := Lib.hid hKe
          have HDe := Lib.hid hDe
          have HKm := Lib.hid hKm
          have HDm := Lib.hid hDm
          clear hKe hDe hKm hDm hw1
          go_wp2_with fail
          refine wp_region_inv [141, 142, 143, 144, 145] (fun d s W => (d 0 = true → s 141 = .agg #[.bool ng4, .slice A4 n4 c4, .int .i64 E4]) ∧ (d 1 = true → DV W (s 142) (dabs EN)) ∧ (d 2 = true → s 143 = .agg #[.bool ng5, .slice A5 n5 c5, .int .i64 E5]) ∧ (d 3 = true → s 144 = .int .i64 (Int.sign ZZ)) ∧ (d 4 = true → s 145 = .bool false) ∧ Below wn.heap.size wn W)
            rfl (by kernel_rfl) ?_ ?_ ?_
          · exact ⟨by simp, by simp, by simp, by simp, by simp, (Below.refl _ _).drew⟩
          · refine ⟨?_, ?_, ?_, ?_, ?_, trivial⟩
            all_goals
              intro d s W hJ hfr hd hdep
              simp only [List.mem_cons, forall_eq_or_imp, List.not_mem_nil, false_implies, implies_true, and_true, Region.binds] at hdep
              have f13 := hfr 13 (by decide)
              have f20 := hfr 20 (by decide)
              simp at f13 f20 hdep
              obtain ⟨h0, h1, h2, h3, h4, hT⟩ := hJ
            · unfold OpSteps
              obtain ⟨p0, p1, p2⟩ := cells3 (HKe.out.below hT HKe.out.lt)
              simp [go_sem, evS, f13, p0, p1, p2]
              exact ⟨fun _ => by simp [sput], fun h => by simpa [sput] using h1 (by simpa [did] using h), fun h => by simpa [sput] using h2 (by simpa [did] using h), fun h => by simpa [sput] using h3 (by simpa [did] using h), fun h => by simpa [sput] using h4 (by simpa [did] using h), hT⟩
            · have fz0 := h0 (by simp [hdep])
              unfold OpSteps
              simp [go_sem, evS, fz0]
              refine (rabs_v (HDe.out W hT)).mono ?_
              rintro e W' ⟨v9, rfl, hv, hb⟩
              refine ⟨_, rfl, ?_⟩
              exact ⟨fun h => by simpa [sput] using h0 (by simpa [did] using h), fun _ => by simpa [sput] using hv, fun h => by simpa [sput] using h2 (by simpa [did] using h), fun h => by simpa [sput] using h3 (by simpa [did] using h), fun h => by simpa [sput] using h4 (by simpa [did] using h), below_nx hT hb⟩
            · unfold OpSteps
              obtain ⟨p0, p1, p2⟩ := cells3 (HKm.out.below hT HKm.out.lt)
              simp [go_sem, evS, f20, p0, p1, p2]
              exact ⟨fun h => by simpa [sput] using h0 (by simpa [did] using h), fun h => by simpa [sput] using h1 (by simpa [did] using h), fun _ => by simp [sput], fun h => by simpa [sput] using h3 (by simpa [did] using h), fun h => by simpa [sput] using h4 (by simpa [did] using h), hT⟩
            · have fz1 := h1 (by simp [hdep])
              have fz2 := h2 (by simp [hdep])
              unfold OpSteps
              simp [go_sem, evS, fz2]
              refine (rcmp_v fz1 (HDm.out W hT) HFi.out.2.2.2.2.2.2.1 HFi.out.2.2.2.2.2.2.2 HZZ.out.1).mono ?_
              rintro e W' ⟨rfl, hb⟩
              refine ⟨_, rfl, ?_⟩
              exact ⟨fun h => by simpa [sput] using h0 (by simpa [did] using h), fun h => by simpa [sput] using (h1 (by simpa [did] using h)).below hb, fun h => by simpa [sput] using h2 (by simpa [did] using h), fun _ => by simp [sput], fun h => by simpa [sput] using h4 (by simpa [did] using h), below_nx hT hb⟩
            · have fz3 := h3 (by simp [hdep])
              unfold OpSteps
              simp [go_sem, evS, fz3, hsg]
              exact ⟨fun h => by simpa [sput] using h0 (by simpa [did] using h), fun h => by simpa [sput] using h1 (by simpa [did] using h), fun h => by simpa [sput] using h2 (by simpa [did] using h), fun h => by simpa [sput] using h3 (by simpa [did] using h), fun _ => by simpa [sput] using hz0, hT⟩
          intro d s W hJ hd
          obtain ⟨h0, h1, h2, h3, h4, hT⟩ := hJ
          have hs := h4 (hd 4 (by decide))
          have HBz := Lib.hid hT
          clear h0 h1 h2 h3 h4 hT hd
          simp [setAll, hs]
          clear hs
          generalize s 141 = s141
          generalize s 142 = s142
          generalize s 143 = s143
          generalize s 144 = s144
          generalize s 145 = s145
          generalize W = wz at *
          have HBe9 := Lib.hid (below_nx (below_nx HBn.out HBm.out) HBz.out)
          go_wp2_with fail
          go_roundw
          case rel => exact ⟨i + 1, by omega, by go_num, HBe9⟩
          case measure => simp [intOf] <;> omega
    · obtain rfl : n = i := by omega
      have hic : ¬ (n : Int) < (n : Int) := by omega
      go_wp2_with fail
      refine (awake9_any _).mono ?_
      rintro e w9 ⟨rfl, hb⟩
      have HB9 := Lib.hid (below_nx (below_nx HB6.out HBr.out) hb)
      clear hb
      go_wp2_with fail
      go_ret
      exact ⟨rfl, HB9.out⟩
end Go.Proofs.Ytlhdcajamempoaa
