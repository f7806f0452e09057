/-
Equil: Factors. Conditions: as each says.
-/
import Derived.Test.YtelpdbkkefpjhaaZKEqC
import Derived.BigQuiet
set_option linter.unusedVariables false
set_option linter.unusedSimpArgs false
set_option linter.unnecessarySimpa false
namespace Go.Proofs.Ytelpdbkkefpjhaa
open Go.RowKit
attribute [local go_sem ↓] Go.wp_at_zero Go.wp_at_succ

set_option maxHeartbeats 2000000 in
theorem eqfactors_bad (A : Option Addr) (n c : Nat) (off r k ld : Int) (w : World) (hn : n < 9223372036854775808) (ho : I64 off) (hr : I64 r) (hk : I64 k) (hi : I64 ld) (hgd : matB n off r k ld = false) :
    Calls Try.prog 8 #[mat A n c off r k ld] w fun e w' => e = .returned (.tuple #[.slice none 0 0, .slice none 0 0, .int .i64 0, .int .i64 1]) ∧ Below w.heap.size w w' := by
  have HG := Lib.hid (fun W => good_any A n c off r k ld W hn ho hr hk hi)
  rw [hgd] at HG
  clear hn ho hr hk hi hgd
  unfold mat at *
  have HZ0 := Lib.hid (Blk.new w 24 #[.slice A n c, .int .i64 off, .int .i64 r, .int .i64 k, .int .i64 ld])
  have HB0 := Lib.hid ((Below.refl w.heap.size w).alloc (Nat.le_refl _) (.cells #[.slice A n c, .int .i64 off, .int .i64 r, .int .i64 k, .int .i64 ld] 24))
  obtain ⟨c0, c1, c2, c3, c4⟩ := cells5 HZ0.out
  go_enter Try.func8, Try.ntmps8
  go_wp2_with fail
  refine (HG.out _).mono ?_
  rintro e w1 ⟨rfl, hb⟩
  have HB1 := Lib.hid (below_nx HB0.out hb)
  clear hb c0 c1 c2 c3 c4
  go_wp2_with fail
  (try simp only [Exit.inBlock, Exit.then])
  refine bodyPost_ret (eq_res4 rfl _ _ _) rfl ?_
  exact ⟨rfl, HB1.out⟩
set_option maxHeartbeats 2000000 in
theorem eqfactors_nan (A : Option Addr) (n c : Nat) (l : List Nat) (o R C L : Nat) (w : World) (hA : Row w A (f64s l)) (hW : Wds l) (hl : l.length = n) (hnc : n ≤ c) (hn : n < 1048576) (hoI : I64 o) (hLI : I64 L) (hR : R ≤ 64) (hC : C ≤ 64) (hL1 : 1 ≤ L) (hRL : R ≤ L) (hmr : R = 0 ∨ C = 0 ∨ o + (C - 1) * L + (R - 1) < n) (hfin : finsB l o R C L = false) :
    Calls Try.prog 8 #[mat A n c o R C L] w fun e w' => e = .returned (.tuple #[.slice none 0 0, .slice none 0 0, .int .i64 0, .int .i64 8]) ∧ Below w.heap.size w w' := by
  have HG := Lib.hid (fun W => good_any A n c o R C L W (by omega) hoI (by unfold I64; omega) (by unfold I64; omega) hLI)
  rw [mat_right hL1 hRL hmr] at HG
  have HFi := Lib.hid (fun W (hb : Below w.heap.size w W) => mfin_any A n c l o R C L (R * C) W (hA.below hb) hW hl hnc hn (by unfold I64 at hoI hLI; omega) rfl hL1 hRL hmr)
  rw [hfin] at HFi
  clear hA hW hl hnc hn hoI hLI hR hC hL1 hRL hmr hfin
  unfold mat at *
  have HZ0 := Lib.hid (Blk.new w 24 #[.slice A n c, .int .i64 o, .int .i64 R, .int .i64 C, .int .i64 L])
  have HB0 := Lib.hid ((Below.refl w.heap.size w).alloc (Nat.le_refl _) (.cells #[.slice A n c, .int .i64 o, .int .i64 R, .int .i64 C, .int .i64 L] 24))
  obtain ⟨c0, c1, c2, c3, c4⟩ := cells5 HZ0.out
  go_enter Try.func8, Try.ntmps8
  go_wp2_with fail
  refine (HG.out _).mono ?_
  rintro e w1 ⟨rfl, hb⟩
  have HB1 := Lib.hid (below_nx HB0.out hb)
  have HZ1 := Lib.hid (HZ0.out.nxt hb)
  clear hb c0 c1 c2 c3 c4
  obtain ⟨c0, c1, c2, c3, c4⟩ := cells5 HZ1.out
  go_wp2_with fail
  refine (HFi.out _ HB1.out).mono ?_
  rintro e w2 ⟨rfl, hb⟩
  have HB2 := Lib.hid (below_nx HB1.out hb)
  clear hb c0 c1 c2 c3 c4
  go_wp2_with fail
  (try simp only [Exit.inBlock, Exit.then])
  refine bodyPost_ret (eq_res4 rfl _ _ _) rfl ?_
  exact ⟨rfl, HB2.out⟩

/-- What Factors answers of a finite matrix. -/
def FacR (X : Nat → Nat → Nat) (R C : Nat) (w : World) (e : Ending) (w' : World) : Prop :=
  (∃ A c B d, fAt X R C = 0 ∧ e = .returned (.tuple #[.slice A R c, .slice B C d, .int .i64 0, .int .i64 0]) ∧ Row w' A (i64s (cnt (rE X C) R)) ∧ Row w' B (i64s (cnt (cE X R C) C)) ∧ (∀ b y, A = some ⟨b, y, none⟩ → b < w'.heap.size) ∧ (∀ b y, B = some ⟨b, y, none⟩ → b < w'.heap.size) ∧ Below w.heap.size w w') ∨
  (∃ k : Nat, fAt X R C = k ∧ k ≠ 0 ∧ e = .returned (.tuple #[.slice none 0 0, .slice none 0 0, .int .i64 (k : Int), .int .i64 4]) ∧ Below w.heap.size w w')
theorem fAt_row {X : Nat → Nat → Nat} {R C : Nat} (h : fb (rG X C) R ≠ 0) : fAt X R C = fb (rG X C) R := by unfold fAt; rw [if_pos h]
theorem fAt_col {X : Nat → Nat → Nat} {R C : Nat} (h : fb (rG X C) R = 0) (h2 : fb (cG X R (rE X C)) C ≠ 0) : fAt X R C = R + fb (cG X R (rE X C)) C := by unfold fAt; rw [if_neg (by omega), if_pos h2]
theorem fAt_none {X : Nat → Nat → Nat} {R C : Nat} (h : fb (rG X C) R = 0) (h2 : fb (cG X R (rE X C)) C = 0) : fAt X R C = 0 := by unfold fAt; rw [if_neg (by omega), if_neg (by omega)]
theorem wrap_at {R k K : Nat} (hR : R ≤ 64) (hk : k ≤ 64) (hK : R + k = K) : (R : Int) + (k : Int) = (K : Int) ∧ wrap64 (K : Int) = (K : Int) ∧ IntKind.i64.wrap (K : Int) = (K : Int) := ⟨by omega, wrap_id (by unfold I64; omega), wrapi (by omega) (by omega)⟩

/-- The rows' exponents. -/
theorem eqrows_any (p : Nat) (A : Option Addr) (n c : Nat) (l : List Nat) (o R C L : Nat) (w : World) (hA : Row w A (f64s l)) (hW : Wds l) (hl : l.length = n) (hnc : n ≤ c) (hn : n < 1048576) (hoI : I64 o) (hLI : I64 L) (hR : R ≤ 64) (hC : C ≤ 64) (hL1 : 1 ≤ L) (hRL : R ≤ L) (hmr : R = 0 ∨ C = 0 ∨ o + (C - 1) * L + (R - 1) < n) (hp : Blk w p 24 #[.slice A n c, .int .i64 o, .int .i64 R, .int .i64 C, .int .i64 L]) :
    Calls Try.prog 25 #[.int .i64 (R : Int), .func (.func 26) #[] #[.pointer (some ⟨p, 0, none⟩)], .func (.func 28) #[] #[]] w (ExpR (rG (tX l o L) C) R w) := by
  refine eqexponents_any 26 28 #[.pointer (some ⟨p, 0, none⟩)] #[] R C (fun i => mat A n c ((rowP o C i : Nat) : Int) 1 C L) (fun i => colsL l (rowP o C i) 1 L C) (rG (tX l o L) C) w (fun args W => eqf1_enters args W) (by omega) (fun k hk => by have := rG_bound (tX l o L) C k; omega) ?_ ?_ ?_
  · intro W k hk hb
    exact eqrow_one p A n c o R C L k W (hp.nxt hb) hn hoI hLI hR hC hL1 hRL hmr hk
  · intro W k hk hb
    exact eqnum_row A n c l o R C L k W (hA.below hb) hl hnc hn hoI hLI hR hC hL1 hRL hmr hk
  · intro W k B d hk hb hRow
    have h := eqgreatest_any 28 #[] B C d (colsL l (rowP o C k) 1 L C) (fun j => expOf ((colsL l (rowP o C k) 1 L C).getD j 0)) W (fun args W => eqf2_enters args W) hRow (by rw [colsL_length]; omega) (by omega) (fun W' j hj hb' => eqsz_one j _ W' (getD_wds (colsL_wds hW _ _ _ _) _))
    have e : gst (fun j => zB ((colsL l (rowP o C k) 1 L C).getD j 0)) (fun j => expOf ((colsL l (rowP o C k) 1 L C).getD j 0)) C = rG (tX l o L) C k := gst_congr (fun j hj => by simp only [row_at l o L C k hj]; exact ⟨trivial, fun _ => trivial⟩)
    rw [e] at h
    exact h
/-- The columns'. -/
theorem eqcols_any (p pr : Nat) (A A1 : Option Addr) (n c cr : Nat) (l : List Nat) (o R C L : Nat) (w : World) (hA : Row w A (f64s l)) (hW : Wds l) (hl : l.length = n) (hnc : n ≤ c) (hn : n < 1048576) (hoI : I64 o) (hLI : I64 L) (hR : R ≤ 64) (hC : C ≤ 64) (hL1 : 1 ≤ L) (hRL : R ≤ L) (hmr : R = 0 ∨ C = 0 ∨ o + (C - 1) * L + (R - 1) < n) (hp : Blk w p 24 #[.slice A n c, .int .i64 o, .int .i64 R, .int .i64 C, .int .i64 L]) (hpr : Blk w pr 27 #[.slice A1 R cr]) (hA1 : Row w A1 (i64s (cnt (rE (tX l o L) C) R))) :
    Calls Try.prog 25 #[.int .i64 (C : Int), .func (.func 30) #[] #[.pointer (some ⟨p, 0, none⟩)], .func (.func 31) #[] #[.pointer (some ⟨pr, 0, none⟩)]] w (ExpR (cG (tX l o L) R (rE (tX l o L) C)) C w) := by
  refine eqexponents_any 30 31 #[.pointer (some ⟨p, 0, none⟩)] #[.pointer (some ⟨pr, 0, none⟩)] C R (fun j => mat A n c ((colP o L R j : Nat) : Int) R 1 L) (fun j => colsL l (colP o L R j) R L 1) (cG (tX l o L) R (rE (tX l o L) C)) w (fun args W => eqf3_enters args W) (by omega) (fun k hk => by have := cG_bound (tX l o L) R (rE (tX l o L) C) k (fun i _ => rE_bound _ _ i); omega) ?_ ?_ ?_
  · intro W k hk hb
    exact eqcol_one p A n c o R C L k W (hp.nxt hb) hn hoI hLI hR hC hL1 hRL hmr hk
  · intro W k hk hb
    exact eqnum_col A n c l o R C L k W (hA.below hb) hl hnc hn hoI hLI hR hC hL1 hRL hmr hk
  · intro W k B d hk hb hRow
    have h := eqgreatest_any 31 #[.pointer (some ⟨pr, 0, none⟩)] B R d (colsL l (colP o L R k) R L 1) (fun i => expOf ((colsL l (colP o L R k) R L 1).getD i 0) + rE (tX l o L) C i) W (fun args W => eqf4_enters args W) hRow (by rw [colsL_length]; omega) (by omega) (fun W' j hj hb' => eqsz_two j _ R cr A1 (rE (tX l o L) C) pr W' (((hpr.nxt hb).nxt hb').cell 0) ((hA1.below hb).below hb') hj (getD_wds (colsL_wds hW _ _ _ _) _) (rE_bound _ _ j))
    have e : gst (fun i => zB ((colsL l (colP o L R k) R L 1).getD i 0)) (fun i => expOf ((colsL l (colP o L R k) R L 1).getD i 0) + rE (tX l o L) C i) R = cG (tX l o L) R (rE (tX l o L) C) k := gst_congr (fun j hj => by simp only [col_at l o L R k hj]; exact ⟨trivial, fun _ => trivial⟩)
    rw [e] at h
    exact h

set_option maxHeartbeats 4000000 in
theorem eqfactors_any (A : Option Addr) (n c : Nat) (l : List Nat) (o R C L : Nat) (w : World) (hA : Row w A (f64s l)) (hW : Wds l) (hl : l.length = n) (hnc : n ≤ c) (hn : n < 1048576) (hoI : I64 o) (hLI : I64 L) (hR : R ≤ 64) (hC : C ≤ 64) (hL1 : 1 ≤ L) (hRL : R ≤ L) (hmr : R = 0 ∨ C = 0 ∨ o + (C - 1) * L + (R - 1) < n) (hfin : finsB l o R C L = true) :
    Calls Try.prog 8 #[mat A n c o R C L] w (FacR (tX l o L) R C w) := by
  have HG := Lib.hid (fun W => good_any A n c o R C L W (by omega) hoI (by unfold I64; omega) (by unfold I64; omega) hLI)
  rw [mat_right hL1 hRL hmr] at HG
  have HFi := Lib.hid (fun W (hb : Below w.heap.size w W) => mfin_any A n c l o R C L (R * C) W (hA.below hb) hW hl hnc hn (by unfold I64 at hoI hLI; omega) rfl hL1 hRL hmr)
  rw [hfin] at HFi
  have HE1 := Lib.hid (fun W p (hb : Below w.heap.size w W) hp => eqrows_any p A n c l o R C L W (hA.below hb) hW hl hnc hn hoI hLI hR hC hL1 hRL hmr hp)
  have HE2 := Lib.hid (fun W p pr A1 cr (hb : Below w.heap.size w W) hp hpr hA1 => eqcols_any p pr A A1 n c cr l o R C L W (hA.below hb) hW hl hnc hn hoI hLI hR hC hL1 hRL hmr hp hpr hA1)
  have HLe1 := Lib.hid (fb_le (rG (tX l o L) C) R)
  have HLe2 := Lib.hid (fb_le (cG (tX l o L) R (rE (tX l o L) C)) C)
  generalize tX l o L = X at *
  have HRC := Lib.hid (And.intro hR hC)
  clear hA hW hl hnc hn hoI hLI hR hC hL1 hRL hmr hfin
  unfold mat at *
  have HZ0 := Lib.hid (Blk.new w 24 #[.slice A n c, .int .i64 o, .int .i64 R, .int .i64 C, .int .i64 L])
  have HB0 := Lib.hid ((Below.refl w.heap.size w).alloc (Nat.le_refl _) (.cells #[.slice A n c, .int .i64 o, .int .i64 R, .int .i64 C, .int .i64 L] 24))
  obtain ⟨c0, c1, c2, c3, c4⟩ := cells5 HZ0.out
  go_enter Try.func8, Try.ntmps8
  go_wp2_with fail
  refine (HG.out _).mono ?_
  rintro e w1 ⟨rfl, hb⟩
  have HB1 := Lib.hid (below_nx HB0.out hb)
  have HZ1 := Lib.hid (HZ0.out.nxt hb)
  clear hb c0 c1 c2 c3 c4
  obtain ⟨c0, c1, c2, c3, c4⟩ := cells5 HZ1.out
  go_wp2_with fail
  refine (HFi.out _ HB1.out).mono ?_
  rintro e w2 ⟨rfl, hb⟩
  have HB2 := Lib.hid (below_nx HB1.out hb)
  have HZ2 := Lib.hid (HZ1.out.nxt hb)
  clear hb c0 c1 c2 c3 c4
  obtain ⟨c0, c1, c2, c3, c4⟩ := cells5 HZ2.out
  go_wp2_with fail
  refine (HE1.out _ w.heap.size HB2.out HZ2.out).mono ?_
  rintro e w3 h
  rcases h with ⟨A1, d1, hf1, rfl, hrow, hlo, hb⟩ | ⟨hf1, rfl, hb⟩
  · have HF1 := Lib.hid hf1
    have HR1 := Lib.hid (And.intro hrow hlo)
    have HB3 := Lib.hid (below_al (below_nx HB2.out hb) (o := .cells #[.slice A1 R d1] 27))
    have HZ3 := Lib.hid ((HZ2.out.nxt hb).alloc (.cells #[.slice A1 R d1] 27))
    have HP3 := Lib.hid (Blk.new w3 27 #[.slice A1 R d1])
    have HR3 := Lib.hid (show Row (w3.alloc (.cells #[.slice A1 R d1] 27)) A1 (i64s (cnt (rE X C) R)) from hrow.below ((Below.refl _ _).alloc (Nat.le_refl _) _))
    clear hb c0 c1 c2 c3 c4 hrow hlo hf1
    obtain ⟨c0, c1, c2, c3, c4⟩ := cells5 HZ3.out
    go_wp2_with fail
    refine (HE2.out _ w.heap.size w3.heap.size A1 d1 HB3.out HZ3.out HP3.out HR3.out).mono ?_
    rintro e w4 h
    rcases h with ⟨A2, d2, hf2, rfl, hrow, hlo, hb⟩ | ⟨hf2, rfl, hb⟩
    · have HF2 := Lib.hid (fAt_none HF1.out hf2)
      have HR2 := Lib.hid (And.intro hrow hlo)
      have HB4 := Lib.hid (below_nx HB3.out hb)
      have HR4 := Lib.hid (HR3.out.below hb)
      have HSz := Lib.hid (show w3.heap.size ≤ w4.heap.size by have := hb.size; simp at this; omega)
      have HP4 := Lib.hid (HP3.out.nxt hb)
      have hpc := HP4.out.cell 0
      clear hb c0 c1 c2 c3 c4 hrow hlo hf2
      go_wp2_with fail
      (try simp only [Exit.inBlock, Exit.then])
      refine bodyPost_ret (eq_res4 rfl _ _ _) rfl ?_
      exact .inl ⟨A1, d1, A2, d2, HF2.out, rfl, HR4.out, HR2.out.1, fun b y h => Nat.lt_of_lt_of_le (HR1.out.2 b y h) HSz.out, HR2.out.2, HB4.out⟩
    · have HF2 := Lib.hid (And.intro (fAt_col HF1.out hf2) hf2)
      obtain ⟨K, hK⟩ : ∃ K, R + fb (cG X R (rE X C)) C = K := ⟨_, rfl⟩
      have hwr := wrap_at HRC.out.1 (Nat.le_trans HLe2.out HRC.out.2) hK
      have HB4 := Lib.hid (below_nx HB3.out hb)
      have HZ4 := Lib.hid (HZ3.out.nxt hb)
      rw [hK] at HF2
      generalize fb (cG X R (rE X C)) C = kk at *
      obtain ⟨hw1, hw2, hw3⟩ := hwr
      have hk0 : (0 : Int) < (kk : Int) := by have := HF2.out.2; omega
      have HK := Lib.hid hK
      clear hb c0 c1 c2 c3 c4 hf2 hK
      obtain ⟨c0, c1, c2, c3, c4⟩ := cells5 HZ4.out
      go_wp2_with fail
      go_quiet (fail)
      go_wp2_with fail
      (try simp only [Exit.inBlock, Exit.then])
      refine bodyPost_ret (eq_res4 rfl _ _ _) rfl ?_
      exact .inr ⟨K, HF2.out.1, by have := HF2.out.2; have := HK.out; omega, rfl, below_drewN HB4.out _⟩
  · have HF1 := Lib.hid (And.intro (fAt_row hf1) hf1)
    have HB3 := Lib.hid (below_al (below_nx HB2.out hb) (o := .cells #[.slice none 0 0] 27))
    generalize fb (rG X C) R = kk at *
    have hk0 : (0 : Int) < (kk : Int) := by have := HF1.out.2; omega
    clear hb c0 c1 c2 c3 c4 hf1
    go_wp2_with fail
    (try simp only [Exit.inBlock, Exit.then])
    refine bodyPost_ret (eq_res4 rfl _ _ _) rfl ?_
    exact .inr ⟨kk, HF1.out.1, HF1.out.2, rfl, HB3.out⟩
end Go.Proofs.Ytelpdbkkefpjhaa
