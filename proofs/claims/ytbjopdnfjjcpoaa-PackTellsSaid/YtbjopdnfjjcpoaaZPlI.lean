/-
Unpack: a panel's numbers put into a matrix. Conditions: the lists have fewer than 2^20 numbers.
-/
import Derived.Test.YtbjopdnfjjcpoaaZPlH
import Derived.Test.YtbjopdnfjjcpoaaZMwC
import Derived.Test.YtbjopdnfjjcpoaaZGrE
import Derived.BigQuiet
set_option linter.unusedVariables false
set_option linter.unusedSimpArgs false
set_option linter.unnecessarySimpa false
namespace Go.Proofs.Ytbjopdnfjjcpoaa
open Go.RowKit
attribute [local go_sem ↓] Go.wp_at_zero Go.wp_at_succ

theorem run_eql_nilF (a : Addr) (n c : Nat) (w : World) : (binOp .eql 22 (.slice (some a) n c) (.slice none 0 0)).run Try.prog w = .ok (.bool false) w := by kernel_rfl
attribute [local go_sem ↓] run_eql_nilF
theorem pclone_any (a : Addr) (n c : Nat) (l : List Nat) (w : World) (hA : Row w (some a) (f64s l)) (hl : l.length = n) (hn : n ≤ 1048576) :
    Calls Try.prog 29 #[.slice (some a) n c] w fun e w' => ∃ g c', e = .returned (.slice (some ⟨g, 0, none⟩) n c') ∧ Own w' g l ∧ w.heap.size ≤ g ∧ Below w.heap.size w w' := by
  subst hl
  obtain ⟨i0, hi, hz0, hz1, hz2⟩ := fi0
  have HA := Lib.hid hA
  clear hA
  go_enter Try.func29, Try.ntmps29
  go_wp2_with (at_builtin; refine wpList_append_own _ rfl _ _ 22 rfl w.heap.size 39 i0 (.float .f64 0) 1 8 Try.underlying22 hi hz0 hz1 hz2 rfl (by decide) _ _ _ rfl (own_empty w) a l.length c (f64s l) rfl (by simp [f64s]) ?c1 (one_cells l) ?c3 ?c4 ?c5 ?_)
  case c1 => exact row_add (HA.out.below ((Below.refl _ _).alloc (Nat.le_refl _) _))
  case c3 => unfold maxLen; omega
  case c4 => omega
  case c5 => simp
  intro v' w' hown hgrow hne
  obtain ⟨g, c', rfl, hg, hc, hm, ho⟩ := own_of hown hne rfl
  have HO := Lib.hid ho
  have HB := Lib.hid (((Below.refl w.heap.size w).alloc (Nat.le_refl _) (.cells #[] 39)).grown hgrow (by simp) (fun k hk => by simp [Value.ownBlock] at hk; omega))
  clear ho hgrow hown
  go_wp2_with fail
  go_ret
  exact ⟨g, c', rfl, HO.out, hg, HB.out⟩
/-- The first q numbers of a panel of K columns have been put into the matrix. -/
def Pup (l : List Nat) (o R C L : Nat) (T : Nat → Nat → Nat) (K q : Nat) (l' : List Nat) : Prop :=
  l'.length = l.length ∧ (∀ a, a < R → ∀ b, b < C → l'.getD (o + a + b * L) 0 = if a * K + b < q then T a b else l.getD (o + a + b * L) 0) ∧ ∀ x, (∀ a, a < R → ∀ b, b < C → x ≠ o + a + b * L) → l'.getD x 0 = l.getD x 0
theorem Pup.zero (l : List Nat) (o R C L : Nat) (T : Nat → Nat → Nat) (K : Nat) : Pup l o R C L T K 0 l := ⟨rfl, fun a _ b _ => by rw [if_neg (by omega)], fun _ _ => rfl⟩
theorem Pup.done {l l' : List Nat} {o R C L : Nat} {T : Nat → Nat → Nat} {K P q : Nat} (h : Pup l o R C L T K q l') (hq : q = P * K) (hR : R ≤ P) (hC : C ≤ K) : Img l o R C L T l' :=
  ⟨h.1, fun a ha b hb => by rw [h.2.1 a ha b hb, if_pos (by have := tab_lt (r := P) (k := K) (i := a) (j := b) (by omega) (by omega); omega)], h.2.2⟩
theorem Pup.step {l l' : List Nat} {o R C L : Nat} {T : Nat → Nat → Nat} {K q a b x : Nat} (h : Pup l o R C L T K q l') (hRL : R ≤ L) (ha : a < R) (hb : b < C) (hC : C ≤ K) (hq : a * K + b = q) (hP : o + a + b * L < l.length) (hx : x = T a b) : Pup l o R C L T K (q + 1) (l'.set (o + a + b * L) x) := by
  subst hx
  refine ⟨by rw [List.length_set]; exact h.1, fun i hi j hj => ?_, fun x hx => ?_⟩
  · by_cases e : i = a ∧ j = b
    · obtain ⟨rfl, rfl⟩ := e
      rw [getD_set_self (by rw [h.1]; exact hP), if_pos (by omega)]
    · rw [getD_set_ne _ (fun e2 => e (by
        have := spots_inj (L := L) (a := a) (b := b) (a' := i) (b' := j) (by omega) (by omega) (by omega)
        exact ⟨this.1.symm, this.2.symm⟩)), h.2.1 i hi j hj]
      have hne : i * K + j ≠ q := fun e2 => e (tab_injg (C := K) (by omega) (by omega) (e2.trans hq.symm))
      by_cases e1 : i * K + j < q
      · rw [if_pos e1, if_pos (by omega)]
      · rw [if_neg e1, if_neg (by omega)]
  · rw [getD_set_ne _ (fun e => hx a ha b hb e.symm), h.2.2 x hx]
theorem Pup.skip {l l' : List Nat} {o R C L : Nat} {T : Nat → Nat → Nat} {K q a b : Nat} (h : Pup l o R C L T K q l') (hb : b < K) (hC : C ≤ K) (hq : a * K + b = q) (hn : ¬ (a < R ∧ b < C)) : Pup l o R C L T K (q + 1) l' := by
  refine ⟨h.1, fun i hi j hj => ?_, h.2.2⟩
  rw [h.2.1 i hi j hj]
  have hne : i * K + j ≠ q := fun e2 => hn (by obtain ⟨rfl, rfl⟩ := tab_injg (C := K) (by omega) hb (e2.trans hq.symm); exact ⟨hi, hj⟩)
  by_cases e1 : i * K + j < q
  · rw [if_pos e1, if_pos (by omega)]
  · rw [if_neg e1, if_neg (by omega)]
/-- One number of the panel is put into the matrix, or passed by. -/
theorem set_pup (g c n : Nat) (l l1 : List Nat) (o R C L : Nat) (T : Nat → Nat → Nat) (K q a b x : Nat) (w : World) (hO : Own w g l1) (hl : l.length = n) (hn : n < 1048576) (hLI : I64 L) (hRb : R < 1048576) (hCb : C < 1048576) (hob : o < 9223372036854775808) (hL1 : 1 ≤ L) (hRL : R ≤ L) (hmr : R = 0 ∨ C = 0 ∨ o + (C - 1) * L + (R - 1) < n)
    (hP : Pup l o R C L T K q l1) (hb : b < K) (hC : C ≤ K) (hq : a * K + b = q) (hx : a < R → b < C → x = T a b) :
    Calls Try.prog 30 #[mat (some ⟨g, 0, none⟩) n c o R C L, .int .i64 (a : Int), .int .i64 (b : Int), .float .f64 x] w fun e w' => ∃ b9 l2, e = .returned (.bool b9) ∧ Own w' g l2 ∧ Pup l o R C L T K (q + 1) l2 ∧ Only g w w' := by
  have hl1 : l1.length = n := hP.1.trans hl
  have hm := mat_right hL1 hRL hmr
  by_cases h : a < R ∧ b < C
  · have hp := gr_lt hmr h.1 h.2
    have ht : thereB l1.length (o : Int) (R : Int) (C : Int) (L : Int) (a : Int) (b : Int) = true := by
      unfold thereB
      rw [hl1, hm]
      simp
      omega
    have hc := set_there g c l1 o R C L a b x (o + a + b * L) w hO (by omega) (by unfold I64; omega) (by unfold I64; omega) (by unfold I64; omega) hLI ht (by simp)
    rw [hl1] at hc
    refine hc.mono ?_
    rintro e w' ⟨rfl, h1, h2⟩
    exact ⟨_, _, rfl, h1, hP.step hRL h.1 h.2 hC hq (by rw [hl]; exact hp) (hx h.1 h.2), h2⟩
  · have ht : thereB n (o : Int) (R : Int) (C : Int) (L : Int) (a : Int) (b : Int) = false := by
      unfold thereB
      rw [hm]
      simp
      omega
    refine (set_none (some ⟨g, 0, none⟩) n c o R C L a b x w (by omega) (by unfold I64; omega) (by unfold I64; omega) (by unfold I64; omega) hLI ht).mono ?_
    rintro e w' ⟨rfl, h1⟩
    exact ⟨_, _, rfl, hO.nxt h1, hP.skip hb hC hq h, Only.of_below h1⟩
theorem punpack_bad (r k : Int) (Ap : Option Addr) (np cp : Nat) (Am : Option Addr) (nm cm : Nat) (mo mr mk ml : Int) (w : World) (hnp : np < 1048576) (hk : I64 k) (hn : nm < 1048576) (hmo : I64 mo) (hmr : I64 mr) (hmk : I64 mk) (hml : I64 ml) (h : matB nm mo mr mk ml = false ∨ whB r k np = false) :
    Calls Try.prog 14 #[pnl r k Ap np cp, mat Am nm cm mo mr mk ml] w fun e w' => e = .returned (.int .i64 1) ∧ Below w.heap.size w w' := by
  have HG := Lib.hid (fun W => good_any Am nm cm mo mr mk ml W (by omega) hmo hmr hmk hml)
  have HW := Lib.hid (fun W => pwhole_any r k Ap np cp W hnp hk)
  clear hnp hk hn hmo hmr hmk hml
  by_cases hg : matB nm mo mr mk ml = false
  · rw [hg] at HG
    clear h hg
    unfold pnl mat at *
    go_enter Try.func14, Try.ntmps14
    have Hp0 := Lib.hid ((Blk.new w 28 #[.int .i64 r, .int .i64 k, .slice Ap np cp]).alloc (.cells #[.slice Am nm cm, .int .i64 mo, .int .i64 mr, .int .i64 mk, .int .i64 ml] 24))
    have Hm0 := Lib.hid (Blk.new_ (w.alloc (.cells #[.int .i64 r, .int .i64 k, .slice Ap np cp] 28)) 24 #[.slice Am nm cm, .int .i64 mo, .int .i64 mr, .int .i64 mk, .int .i64 ml] (w.heap.size + 1) (by simp))
    have HB0 := Lib.hid (((Below.refl w.heap.size w).alloc (Nat.le_refl _) (.cells #[.int .i64 r, .int .i64 k, .slice Ap np cp] 28)).alloc (by simp) (.cells #[.slice Am nm cm, .int .i64 mo, .int .i64 mr, .int .i64 mk, .int .i64 ml] 24))
    obtain ⟨p0, p1, p2⟩ := cells3v Hp0.out
    obtain ⟨m0, m1, m2, m3, m4⟩ := cells5 Hm0.out
    go_wp2_with fail
    refine (HG.out _).mono ?_
    rintro e w1 ⟨rfl, hb⟩
    have Hp1 := Lib.hid (Hp0.out.nxt hb)
    have Hm1 := Lib.hid (Hm0.out.nxt hb)
    have HB1 := Lib.hid (below_nx HB0.out hb)
    clear hb
    clear p0 p1 p2 m0 m1 m2 m3 m4
    obtain ⟨p0, p1, p2⟩ := cells3v Hp1.out
    obtain ⟨m0, m1, m2, m3, m4⟩ := cells5 Hm1.out
    go_wp2_with fail
    go_ret
    exact ⟨rfl, HB1.out⟩
  · have hg2 : matB nm mo mr mk ml = true := by simpa using hg
    have hw2 : whB r k np = false := h.resolve_left hg
    rw [hg2] at HG
    rw [hw2] at HW
    clear h hg hg2 hw2
    unfold pnl mat at *
    go_enter Try.func14, Try.ntmps14
    have Hp0 := Lib.hid ((Blk.new w 28 #[.int .i64 r, .int .i64 k, .slice Ap np cp]).alloc (.cells #[.slice Am nm cm, .int .i64 mo, .int .i64 mr, .int .i64 mk, .int .i64 ml] 24))
    have Hm0 := Lib.hid (Blk.new_ (w.alloc (.cells #[.int .i64 r, .int .i64 k, .slice Ap np cp] 28)) 24 #[.slice Am nm cm, .int .i64 mo, .int .i64 mr, .int .i64 mk, .int .i64 ml] (w.heap.size + 1) (by simp))
    have HB0 := Lib.hid (((Below.refl w.heap.size w).alloc (Nat.le_refl _) (.cells #[.int .i64 r, .int .i64 k, .slice Ap np cp] 28)).alloc (by simp) (.cells #[.slice Am nm cm, .int .i64 mo, .int .i64 mr, .int .i64 mk, .int .i64 ml] 24))
    obtain ⟨p0, p1, p2⟩ := cells3v Hp0.out
    obtain ⟨m0, m1, m2, m3, m4⟩ := cells5 Hm0.out
    go_wp2_with fail
    refine (HG.out _).mono ?_
    rintro e w1 ⟨rfl, hb⟩
    have Hp1 := Lib.hid (Hp0.out.nxt hb)
    have Hm1 := Lib.hid (Hm0.out.nxt hb)
    have HB1 := Lib.hid (below_nx HB0.out hb)
    clear hb
    clear p0 p1 p2 m0 m1 m2 m3 m4
    obtain ⟨p0, p1, p2⟩ := cells3v Hp1.out
    obtain ⟨m0, m1, m2, m3, m4⟩ := cells5 Hm1.out
    go_wp2_with fail
    refine (HW.out _).mono ?_
    rintro e w2 ⟨rfl, hb⟩
    have Hp2 := Lib.hid (Hp1.out.nxt hb)
    have Hm2 := Lib.hid (Hm1.out.nxt hb)
    have HB2 := Lib.hid (below_nx HB1.out hb)
    clear hb
    clear p0 p1 p2 m0 m1 m2 m3 m4
    obtain ⟨p0, p1, p2⟩ := cells3v Hp2.out
    obtain ⟨m0, m1, m2, m3, m4⟩ := cells5 Hm2.out
    go_wp2_with fail
    go_ret
    exact ⟨rfl, HB2.out⟩

theorem punpack_size (r k : Int) (Ap : Option Addr) (np cp : Nat) (Am : Option Addr) (nm cm : Nat) (mo mr mk ml : Int) (w : World) (hnp : np < 1048576) (hk : I64 k) (hn : nm < 1048576) (hmo : I64 mo) (hmr : I64 mr) (hmk : I64 mk) (hml : I64 ml) (hg : matB nm mo mr mk ml = true) (hw : whB r k np = true) (h : r < mr ∨ k < mk) :
    Calls Try.prog 14 #[pnl r k Ap np cp, mat Am nm cm mo mr mk ml] w fun e w' => e = .returned (.int .i64 3) ∧ Below w.heap.size w w' := by
  have HG := Lib.hid (fun W => good_any Am nm cm mo mr mk ml W (by omega) hmo hmr hmk hml)
  have HW := Lib.hid (fun W => pwhole_any r k Ap np cp W hnp hk)
  rw [hg] at HG
  rw [hw] at HW
  clear hg hw
  clear hnp hk hn hmo hmr hmk hml
  by_cases h1 : r < mr
  · clear h
    unfold pnl mat at *
    go_enter Try.func14, Try.ntmps14
    have Hp0 := Lib.hid ((Blk.new w 28 #[.int .i64 r, .int .i64 k, .slice Ap np cp]).alloc (.cells #[.slice Am nm cm, .int .i64 mo, .int .i64 mr, .int .i64 mk, .int .i64 ml] 24))
    have Hm0 := Lib.hid (Blk.new_ (w.alloc (.cells #[.int .i64 r, .int .i64 k, .slice Ap np cp] 28)) 24 #[.slice Am nm cm, .int .i64 mo, .int .i64 mr, .int .i64 mk, .int .i64 ml] (w.heap.size + 1) (by simp))
    have HB0 := Lib.hid (((Below.refl w.heap.size w).alloc (Nat.le_refl _) (.cells #[.int .i64 r, .int .i64 k, .slice Ap np cp] 28)).alloc (by simp) (.cells #[.slice Am nm cm, .int .i64 mo, .int .i64 mr, .int .i64 mk, .int .i64 ml] 24))
    obtain ⟨p0, p1, p2⟩ := cells3v Hp0.out
    obtain ⟨m0, m1, m2, m3, m4⟩ := cells5 Hm0.out
    go_wp2_with fail
    refine (HG.out _).mono ?_
    rintro e w1 ⟨rfl, hb⟩
    have Hp1 := Lib.hid (Hp0.out.nxt hb)
    have Hm1 := Lib.hid (Hm0.out.nxt hb)
    have HB1 := Lib.hid (below_nx HB0.out hb)
    clear hb
    clear p0 p1 p2 m0 m1 m2 m3 m4
    obtain ⟨p0, p1, p2⟩ := cells3v Hp1.out
    obtain ⟨m0, m1, m2, m3, m4⟩ := cells5 Hm1.out
    go_wp2_with fail
    refine (HW.out _).mono ?_
    rintro e w2 ⟨rfl, hb⟩
    have Hp2 := Lib.hid (Hp1.out.nxt hb)
    have Hm2 := Lib.hid (Hm1.out.nxt hb)
    have HB2 := Lib.hid (below_nx HB1.out hb)
    clear hb
    clear p0 p1 p2 m0 m1 m2 m3 m4
    obtain ⟨p0, p1, p2⟩ := cells3v Hp2.out
    obtain ⟨m0, m1, m2, m3, m4⟩ := cells5 Hm2.out
    go_wp2_with fail
    go_ret
    exact ⟨rfl, HB2.out⟩
  · have h2 : k < mk := h.resolve_left h1
    clear h
    unfold pnl mat at *
    go_enter Try.func14, Try.ntmps14
    have Hp0 := Lib.hid ((Blk.new w 28 #[.int .i64 r, .int .i64 k, .slice Ap np cp]).alloc (.cells #[.slice Am nm cm, .int .i64 mo, .int .i64 mr, .int .i64 mk, .int .i64 ml] 24))
    have Hm0 := Lib.hid (Blk.new_ (w.alloc (.cells #[.int .i64 r, .int .i64 k, .slice Ap np cp] 28)) 24 #[.slice Am nm cm, .int .i64 mo, .int .i64 mr, .int .i64 mk, .int .i64 ml] (w.heap.size + 1) (by simp))
    have HB0 := Lib.hid (((Below.refl w.heap.size w).alloc (Nat.le_refl _) (.cells #[.int .i64 r, .int .i64 k, .slice Ap np cp] 28)).alloc (by simp) (.cells #[.slice Am nm cm, .int .i64 mo, .int .i64 mr, .int .i64 mk, .int .i64 ml] 24))
    obtain ⟨p0, p1, p2⟩ := cells3v Hp0.out
    obtain ⟨m0, m1, m2, m3, m4⟩ := cells5 Hm0.out
    go_wp2_with fail
    refine (HG.out _).mono ?_
    rintro e w1 ⟨rfl, hb⟩
    have Hp1 := Lib.hid (Hp0.out.nxt hb)
    have Hm1 := Lib.hid (Hm0.out.nxt hb)
    have HB1 := Lib.hid (below_nx HB0.out hb)
    clear hb
    clear p0 p1 p2 m0 m1 m2 m3 m4
    obtain ⟨p0, p1, p2⟩ := cells3v Hp1.out
    obtain ⟨m0, m1, m2, m3, m4⟩ := cells5 Hm1.out
    go_wp2_with fail
    refine (HW.out _).mono ?_
    rintro e w2 ⟨rfl, hb⟩
    have Hp2 := Lib.hid (Hp1.out.nxt hb)
    have Hm2 := Lib.hid (Hm1.out.nxt hb)
    have HB2 := Lib.hid (below_nx HB1.out hb)
    clear hb
    clear p0 p1 p2 m0 m1 m2 m3 m4
    obtain ⟨p0, p1, p2⟩ := cells3v Hp2.out
    obtain ⟨m0, m1, m2, m3, m4⟩ := cells5 Hm2.out
    go_wp2_with fail
    go_ret
    exact ⟨rfl, HB2.out⟩


set_option maxRecDepth 100000 in
set_option maxHeartbeats 2000000 in
theorem punpack_ok (P K gD N cD : Nat) (D : List Nat) (gm c n : Nat) (l : List Nat) (o R C L : Nat) (w : World) (hD : Row w (some ⟨gD, 0, none⟩) (f64s D)) (hDl : D.length = N) (hNb : N < 1048576) (hN : N = P * K) (hKb : K < 9223372036854775808)
    (hO : Own w gm l) (hl : l.length = n) (hn : n < 1048576) (hLI : I64 L) (hRb : R < 1048576) (hCb : C < 1048576) (hob : o < 9223372036854775808) (hL1 : 1 ≤ L) (hRL : R ≤ L) (hmr : R = 0 ∨ C = 0 ∨ o + (C - 1) * L + (R - 1) < n) (hRP : R ≤ P) (hCK : C ≤ K) :
    Calls Try.prog 14 #[pnl P K (some ⟨gD, 0, none⟩) N cD, mat (some ⟨gm, 0, none⟩) n c o R C L] w fun e w' => e = .returned (.int .i64 0) ∧ ∃ l', Own w' gm l' ∧ Img l o R C L (fun a b => D.getD (a * K + b) 0) l' ∧ Only gm w w' := by
  have HG := Lib.hid (fun W => good_any (some ⟨gm, 0, none⟩) n c o R C L W (by omega) (by unfold I64; omega) (by unfold I64; omega) (by unfold I64; omega) hLI)
  rw [mat_right hL1 hRL hmr] at HG
  have HW := Lib.hid (fun W => pwhole_any P K (some ⟨gD, 0, none⟩) N cD W hNb (by unfold I64; omega))
  have hwh : whB (P : Int) (K : Int) N = true := by
    unfold whB
    rw [hN]
    simp
  rw [hwh] at HW
  have HDone := Lib.hid (fun q l1 (e : q = N) (h : Pup l o R C L (fun a b => D.getD (a * K + b) 0) K q l1) => h.done (P := P) (by rw [e]; exact hN) hRP hCK)
  have HK := Lib.hid (show 0 < N → 1 ≤ K from fun h => by
    rcases Nat.eq_zero_or_pos K with e | e
    · subst e; simp at hN; omega
    · exact e)
  have HO := Lib.hid hO
  have HD := Lib.hid hD
  have HDl := Lib.hid hDl
  have HNb := Lib.hid hNb
  have Hl := Lib.hid hl
  have HgW := Lib.hid hO.lt
  have Hf := Lib.hid (show n < 1048576 ∧ I64 L ∧ R < 1048576 ∧ C < 1048576 ∧ o < 9223372036854775808 ∧ 1 ≤ L ∧ R ≤ L ∧ (R = 0 ∨ C = 0 ∨ o + (C - 1) * L + (R - 1) < n) ∧ C ≤ K from ⟨hn, hLI, hRb, hCb, hob, hL1, hRL, hmr, hCK⟩)
  have hc1 : ¬ (P : Int) < (R : Int) := by omega
  have hc2 : ¬ (K : Int) < (C : Int) := by omega
  clear hwh hO hD hDl hNb hN hKb hl hn hLI hRb hCb hob hL1 hRL hmr hRP hCK
  unfold pnl mat at *
  go_enter Try.func14, Try.ntmps14
  have Hp0 := Lib.hid ((Blk.new w 28 #[.int .i64 (P : Int), .int .i64 (K : Int), .slice (some ⟨gD, 0, none⟩) N cD]).alloc (.cells #[.slice (some ⟨gm, 0, none⟩) n c, .int .i64 (o : Int), .int .i64 (R : Int), .int .i64 (C : Int), .int .i64 (L : Int)] 24))
  have Hm0 := Lib.hid (Blk.new_ (w.alloc (.cells #[.int .i64 (P : Int), .int .i64 (K : Int), .slice (some ⟨gD, 0, none⟩) N cD] 28)) 24 #[.slice (some ⟨gm, 0, none⟩) n c, .int .i64 (o : Int), .int .i64 (R : Int), .int .i64 (C : Int), .int .i64 (L : Int)] (w.heap.size + 1) (by simp))
  have HB0 := Lib.hid (((Below.refl w.heap.size w).alloc (Nat.le_refl _) (.cells #[.int .i64 (P : Int), .int .i64 (K : Int), .slice (some ⟨gD, 0, none⟩) N cD] 28)).alloc (by simp) (.cells #[.slice (some ⟨gm, 0, none⟩) n c, .int .i64 (o : Int), .int .i64 (R : Int), .int .i64 (C : Int), .int .i64 (L : Int)] 24))
  obtain ⟨p0, p1, p2⟩ := cells3v Hp0.out
  obtain ⟨m0, m1, m2, m3, m4⟩ := cells5 Hm0.out
  have Ho0 := Lib.hid (HO.out.nxt HB0.out)
  have Hd0 := Lib.hid (HD.out.below HB0.out)
  go_wp2_with fail
  refine (HG.out _).mono ?_
  rintro e w1 ⟨rfl, hb⟩
  have Hp1 := Lib.hid (Hp0.out.nxt hb)
  have Hm1 := Lib.hid (Hm0.out.nxt hb)
  have Ho1 := Lib.hid (Ho0.out.nxt hb)
  have Hd1 := Lib.hid (Hd0.out.below hb)
  have HB1 := Lib.hid (below_nx HB0.out hb)
  clear hb
  clear p0 p1 p2 m0 m1 m2 m3 m4
  obtain ⟨p0, p1, p2⟩ := cells3v Hp1.out
  obtain ⟨m0, m1, m2, m3, m4⟩ := cells5 Hm1.out
  go_wp2_with fail
  refine (HW.out _).mono ?_
  rintro e w2 ⟨rfl, hb⟩
  have Hp2 := Lib.hid (Hp1.out.nxt hb)
  have Hm2 := Lib.hid (Hm1.out.nxt hb)
  have Ho2 := Lib.hid (Ho1.out.nxt hb)
  have Hd2 := Lib.hid (Hd1.out.below hb)
  have HB2 := Lib.hid (below_nx HB1.out hb)
  clear hb
  clear p0 p1 p2 m0 m1 m2 m3 m4
  obtain ⟨p0, p1, p2⟩ := cells3v Hp2.out
  obtain ⟨m0, m1, m2, m3, m4⟩ := cells5 Hm2.out
  go_wp2_with fail
  refine (pclone_any ⟨gD, 0, none⟩ N cD D _ Hd2.out HDl.out (Nat.le_of_lt HNb.out)).mono ?_
  rintro e w3 ⟨gc, cc, rfl, hoc, hgc, hb⟩
  have Hgc := Lib.hid hgc
  have Hc3 := Lib.hid hoc
  clear hgc hoc
  have Hp3 := Lib.hid (Hp2.out.nxt hb)
  have Hm3 := Lib.hid (Hm2.out.nxt hb)
  have Ho3 := Lib.hid (Ho2.out.nxt hb)
  have Hd3 := Lib.hid (Hd2.out.below hb)
  have HB3 := Lib.hid (below_nx HB2.out hb)
  clear hb
  clear p0 p1 p2 m0 m1 m2 m3 m4
  obtain ⟨p0, p1, p2⟩ := cells3v Hp3.out
  obtain ⟨m0, m1, m2, m3, m4⟩ := cells5 Hm3.out
  go_wp2_with fail
  clear p0 p1 p2 m0 m1 m2 m3 m4
  go_loopw [33] (fun a wr => ∃ (q : Nat) (l1 : List Nat), q ≤ N ∧ a = .int .i64 (q : Int) ∧ Own wr gm l1 ∧ Pup l o R C L (fun a b => D.getD (a * K + b) 0) K q l1 ∧ Only gm w3 wr) (fun a _ => N - (intOf a).toNat)
  case atStart => exact ⟨0, l, Nat.zero_le _, rfl, Ho3.out, Pup.zero _ _ _ _ _ _ _, Only.refl _ _⟩
  case round =>
    obtain ⟨q, l1, hq, rfl, ho, hp, hon⟩ := hrel
    have Ho := Lib.hid ho
    have HP := Lib.hid hp
    have HOn := Lib.hid hon
    clear ho hp hon
    by_cases hlt : q < N
    · have hqc : (q : Int) < (N : Int) := by omega
      have hK1 : 1 ≤ K := HK.out (by omega)
      obtain ⟨qb, qa, hqb, hqa, hrem, hquo, ⟨hk1, hk2, hk3, hk4⟩, hwb, hwa⟩ := wh_facts (n := q) (k := K) hK1 (by have := HNb.out; omega)
      have hqq : qa * K + qb = q := by rw [hqa, hqb]; have := Nat.div_add_mod q K; rw [Nat.mul_comm]; exact this
      have hqK : qb < K := by rw [hqb]; exact Nat.mod_lt _ hK1
      have Hpr := Lib.hid (HOn.out.blk (by have := HgW.out; omega) Hp3.out)
      have Hmr := Lib.hid (HOn.out.blk (by have := HgW.out; omega) Hm3.out)
      have Hcr := Lib.hid (Hc3.out.only HOn.out (by have := Hgc.out; have := HgW.out; have := HB2.out.size; omega))
      have hqD : q < D.length := by rw [HDl.out]; exact hlt
      have hcell := Hcr.out.get q hqD
      rw [← getD_of_lt hqD] at hcell
      obtain ⟨x, hx⟩ : ∃ x, D.getD q 0 = x := ⟨_, rfl⟩
      rw [hx] at hcell
      obtain ⟨Q, hQ⟩ : ∃ Q, q + 1 = Q := ⟨_, rfl⟩
      have HSet := Lib.hid (fun W (h : Own W gm l1) => set_pup gm c n l l1 o R C L (fun a b => D.getD (a * K + b) 0) K q qa qb x W h Hl.out Hf.out.1 Hf.out.2.1 Hf.out.2.2.1 Hf.out.2.2.2.1 Hf.out.2.2.2.2.1 Hf.out.2.2.2.2.2.1 Hf.out.2.2.2.2.2.2.1 Hf.out.2.2.2.2.2.2.2.1 HP.out hqK Hf.out.2.2.2.2.2.2.2.2 hqq (fun _ _ => by show x = D.getD (qa * K + qb) 0; rw [hqq, hx]))
      rw [hQ] at HSet
      have hq1 : q + 1 ≤ 1048576 := by have := HNb.out; omega
      have bq := hlt
      clear hqb hqa hqD hx hqq hqK hK1
      go_wp2_with fail
      clear hcell
      refine wp_region_inv [38, 39, 40, 41, 42, 43, 44, 45, 46, 47, 48] (fun d s W => (d 0 = true → s 38 = .agg #[.slice (some ⟨gm, 0, none⟩) n c, .int .i64 (o : Int), .int .i64 (R : Int), .int .i64 (C : Int), .int .i64 (L : Int)]) ∧ (d 1 = true → s 39 = .int .i64 (q : Int)) ∧ (d 2 = true → s 40 = .pointer (some ⟨w.heap.size, 1, none⟩)) ∧ (d 3 = true → s 41 = .int .i64 (K : Int)) ∧ (d 4 = true → s 42 = .int .i64 (qa : Int)) ∧ (d 5 = true → s 43 = .int .i64 (q : Int)) ∧ (d 6 = true → s 44 = .pointer (some ⟨w.heap.size, 1, none⟩)) ∧ (d 7 = true → s 45 = .int .i64 (K : Int)) ∧ (d 8 = true → s 46 = .int .i64 (qb : Int)) ∧ (d 9 = true → s 47 = .float .f64 x) ∧ (d 3 = true → d 2 = true) ∧ (d 4 = true → d 1 = true ∧ d 2 = true ∧ d 3 = true) ∧ (d 7 = true → d 6 = true) ∧ (d 8 = true → d 5 = true ∧ d 6 = true ∧ d 7 = true) ∧ (d 10 = true → d 0 = true ∧ d 1 = true ∧ d 2 = true ∧ d 3 = true ∧ d 4 = true ∧ d 5 = true ∧ d 6 = true ∧ d 7 = true ∧ d 8 = true ∧ d 9 = true) ∧ (d 10 = false → Below wr.heap.size wr W) ∧ (d 10 = true → ∃ l2, Own W gm l2 ∧ Pup l o R C L (fun a b => D.getD (a * K + b) 0) K Q l2 ∧ Only gm wr W))
        rfl (by kernel_rfl) ?_ ?_ ?_
      · exact ⟨by simp, by simp, by simp, by simp, by simp, by simp, by simp, by simp, by simp, by simp, by simp, by simp, by simp, by simp, by simp, ⟨fun _ => (Below.refl _ _).drew, fun e => by simp at e⟩⟩
      · refine ⟨?_, ?_, ?_, ?_, ?_, ?_, ?_, ?_, ?_, ?_, ?_, trivial⟩
        all_goals
          intro d s W hJ hfr hd hdep
          simp only [List.mem_cons, forall_eq_or_imp, List.not_mem_nil, false_implies, implies_true, and_true, Region.binds] at hdep
          have f2 := hfr 2 (by decide)
          have f3 := hfr 3 (by decide)
          have f5 := hfr 5 (by decide)
          have f6 := hfr 6 (by decide)
          simp at f2 f3 f5 f6 hdep
          obtain ⟨h0, h1, h2, h3, h4, h5, h6, h7, h8, h9, x0, x1, x2, x3, x4, hT⟩ := hJ
        · have hl : d 10 = false := by
            cases h : d 10
            · rfl
            · have := x4 h; simp [hd] at this
          rw [hl] at hT
          unfold OpSteps
          obtain ⟨p0, p1, p2, p3, p4⟩ := cells5 (Hmr.out.below (hT.1 rfl) Hmr.out.lt)
          simp [go_sem, evS, f3, p0, p1, p2, p3, p4]
          exact ⟨fun _ => by simp [sput], fun h => by simpa [sput] using h1 (by simpa [did] using h), fun h => by simpa [sput] using h2 (by simpa [did] using h), fun h => by simpa [sput] using h3 (by simpa [did] using h), fun h => by simpa [sput] using h4 (by simpa [did] using h), fun h => by simpa [sput] using h5 (by simpa [did] using h), fun h => by simpa [sput] using h6 (by simpa [did] using h), fun h => by simpa [sput] using h7 (by simpa [did] using h), fun h => by simpa [sput] using h8 (by simpa [did] using h), fun h => by simpa [sput] using h9 (by simpa [did] using h), fun h => by have := x0 (by simpa [did] using h); simp [did, this], fun h => by have := x1 (by simpa [did] using h); simp [did, this], fun h => by have := x2 (by simpa [did] using h); simp [did, this], fun h => by have := x3 (by simpa [did] using h); simp [did, this], fun h => by have := x4 (by simpa [did] using h); simp [did, this], by simpa [did, sput, hl] using hT⟩
        · have hl : d 10 = false := by
            cases h : d 10
            · rfl
            · have := x4 h; simp [hd] at this
          rw [hl] at hT
          unfold OpSteps
          simp [go_sem, evS, f5]
          exact ⟨fun h => by simpa [sput] using h0 (by simpa [did] using h), fun _ => by simp [sput], fun h => by simpa [sput] using h2 (by simpa [did] using h), fun h => by simpa [sput] using h3 (by simpa [did] using h), fun h => by simpa [sput] using h4 (by simpa [did] using h), fun h => by simpa [sput] using h5 (by simpa [did] using h), fun h => by simpa [sput] using h6 (by simpa [did] using h), fun h => by simpa [sput] using h7 (by simpa [did] using h), fun h => by simpa [sput] using h8 (by simpa [did] using h), fun h => by simpa [sput] using h9 (by simpa [did] using h), fun h => by have := x0 (by simpa [did] using h); simp [did, this], fun h => by have := x1 (by simpa [did] using h); simp [did, this], fun h => by have := x2 (by simpa [did] using h); simp [did, this], fun h => by have := x3 (by simpa [did] using h); simp [did, this], fun h => by have := x4 (by simpa [did] using h); simp [did, this], by simpa [did, sput, hl] using hT⟩
        · have hl : d 10 = false := by
            cases h : d 10
            · rfl
            · have := x4 h; simp [hd] at this
          rw [hl] at hT
          unfold OpSteps
          simp [go_sem, evS, f2]
          exact ⟨fun h => by simpa [sput] using h0 (by simpa [did] using h), fun h => by simpa [sput] using h1 (by simpa [did] using h), fun _ => by simp [sput], fun h => by simpa [sput] using h3 (by simpa [did] using h), fun h => by simpa [sput] using h4 (by simpa [did] using h), fun h => by simpa [sput] using h5 (by simpa [did] using h), fun h => by simpa [sput] using h6 (by simpa [did] using h), fun h => by simpa [sput] using h7 (by simpa [did] using h), fun h => by simpa [sput] using h8 (by simpa [did] using h), fun h => by simpa [sput] using h9 (by simpa [did] using h), fun h => by have := x0 (by simpa [did] using h); simp [did, this], fun h => by have := x1 (by simpa [did] using h); simp [did, this], fun h => by have := x2 (by simpa [did] using h); simp [did, this], fun h => by have := x3 (by simpa [did] using h); simp [did, this], fun h => by have := x4 (by simpa [did] using h); simp [did, this], by simpa [did, sput, hl] using hT⟩
        · have hl : d 10 = false := by
            cases h : d 10
            · rfl
            · have := x4 h; simp [hd] at this
          rw [hl] at hT
          have g2 := h2 (by simp [hdep])
          unfold OpSteps
          obtain ⟨p0, p1, p2⟩ := cells3v (Hpr.out.below (hT.1 rfl) Hpr.out.lt)
          simp [go_sem, evS, g2, p0, p1, p2]
          exact ⟨fun h => by simpa [sput] using h0 (by simpa [did] using h), fun h => by simpa [sput] using h1 (by simpa [did] using h), fun h => by simpa [sput] using h2 (by simpa [did] using h), fun _ => by simp [sput], fun h => by simpa [sput] using h4 (by simpa [did] using h), fun h => by simpa [sput] using h5 (by simpa [did] using h), fun h => by simpa [sput] using h6 (by simpa [did] using h), fun h => by simpa [sput] using h7 (by simpa [did] using h), fun h => by simpa [sput] using h8 (by simpa [did] using h), fun h => by simpa [sput] using h9 (by simpa [did] using h), fun _ => by simp [did, hdep], fun h => by have := x1 (by simpa [did] using h); simp [did, this], fun h => by have := x2 (by simpa [did] using h); simp [did, this], fun h => by have := x3 (by simpa [did] using h); simp [did, this], fun h => by have := x4 (by simpa [did] using h); simp [did, this], by simpa [did, sput, hl] using hT⟩
        · have hl : d 10 = false := by
            cases h : d 10
            · rfl
            · have := x4 h; simp [hd] at this
          rw [hl] at hT
          have g1 := h1 (by simp [hdep])
          have g3 := h3 (by simp [hdep])
          unfold OpSteps
          simp [go_sem, evS, g1, g3, hquo, hk1, hk2, hk3, hk4, hwa]
          exact ⟨fun h => by simpa [sput] using h0 (by simpa [did] using h), fun h => by simpa [sput] using h1 (by simpa [did] using h), fun h => by simpa [sput] using h2 (by simpa [did] using h), fun h => by simpa [sput] using h3 (by simpa [did] using h), fun _ => by simp [sput], fun h => by simpa [sput] using h5 (by simpa [did] using h), fun h => by simpa [sput] using h6 (by simpa [did] using h), fun h => by simpa [sput] using h7 (by simpa [did] using h), fun h => by simpa [sput] using h8 (by simpa [did] using h), fun h => by simpa [sput] using h9 (by simpa [did] using h), fun h => by have := x0 (by simpa [did] using h); simp [did, this], fun _ => by have y3 := x0 (by simp [hdep]); simp [did, hdep, y3], fun h => by have := x2 (by simpa [did] using h); simp [did, this], fun h => by have := x3 (by simpa [did] using h); simp [did, this], fun h => by have := x4 (by simpa [did] using h); simp [did, this], by simpa [did, sput, hl] using hT⟩
        · have hl : d 10 = false := by
            cases h : d 10
            · rfl
            · have := x4 h; simp [hd] at this
          rw [hl] at hT
          unfold OpSteps
          simp [go_sem, evS, f5]
          exact ⟨fun h => by simpa [sput] using h0 (by simpa [did] using h), fun h => by simpa [sput] using h1 (by simpa [did] using h), fun h => by simpa [sput] using h2 (by simpa [did] using h), fun h => by simpa [sput] using h3 (by simpa [did] using h), fun h => by simpa [sput] using h4 (by simpa [did] using h), fun _ => by simp [sput], fun h => by simpa [sput] using h6 (by simpa [did] using h), fun h => by simpa [sput] using h7 (by simpa [did] using h), fun h => by simpa [sput] using h8 (by simpa [did] using h), fun h => by simpa [sput] using h9 (by simpa [did] using h), fun h => by have := x0 (by simpa [did] using h); simp [did, this], fun h => by have := x1 (by simpa [did] using h); simp [did, this], fun h => by have := x2 (by simpa [did] using h); simp [did, this], fun h => by have := x3 (by simpa [did] using h); simp [did, this], fun h => by have := x4 (by simpa [did] using h); simp [did, this], by simpa [did, sput, hl] using hT⟩
        · have hl : d 10 = false := by
            cases h : d 10
            · rfl
            · have := x4 h; simp [hd] at this
          rw [hl] at hT
          unfold OpSteps
          simp [go_sem, evS, f2]
          exact ⟨fun h => by simpa [sput] using h0 (by simpa [did] using h), fun h => by simpa [sput] using h1 (by simpa [did] using h), fun h => by simpa [sput] using h2 (by simpa [did] using h), fun h => by simpa [sput] using h3 (by simpa [did] using h), fun h => by simpa [sput] using h4 (by simpa [did] using h), fun h => by simpa [sput] using h5 (by simpa [did] using h), fun _ => by simp [sput], fun h => by simpa [sput] using h7 (by simpa [did] using h), fun h => by simpa [sput] using h8 (by simpa [did] using h), fun h => by simpa [sput] using h9 (by simpa [did] using h), fun h => by have := x0 (by simpa [did] using h); simp [did, this], fun h => by have := x1 (by simpa [did] using h); simp [did, this], fun h => by have := x2 (by simpa [did] using h); simp [did, this], fun h => by have := x3 (by simpa [did] using h); simp [did, this], fun h => by have := x4 (by simpa [did] using h); simp [did, this], by simpa [did, sput, hl] using hT⟩
        · have hl : d 10 = false := by
            cases h : d 10
            · rfl
            · have := x4 h; simp [hd] at this
          rw [hl] at hT
          have g6 := h6 (by simp [hdep])
          unfold OpSteps
          obtain ⟨p0, p1, p2⟩ := cells3v (Hpr.out.below (hT.1 rfl) Hpr.out.lt)
          simp [go_sem, evS, g6, p0, p1, p2]
          exact ⟨fun h => by simpa [sput] using h0 (by simpa [did] using h), fun h => by simpa [sput] using h1 (by simpa [did] using h), fun h => by simpa [sput] using h2 (by simpa [did] using h), fun h => by simpa [sput] using h3 (by simpa [did] using h), fun h => by simpa [sput] using h4 (by simpa [did] using h), fun h => by simpa [sput] using h5 (by simpa [did] using h), fun h => by simpa [sput] using h6 (by simpa [did] using h), fun _ => by simp [sput], fun h => by simpa [sput] using h8 (by simpa [did] using h), fun h => by simpa [sput] using h9 (by simpa [did] using h), fun h => by have := x0 (by simpa [did] using h); simp [did, this], fun h => by have := x1 (by simpa [did] using h); simp [did, this], fun _ => by simp [did, hdep], fun h => by have := x3 (by simpa [did] using h); simp [did, this], fun h => by have := x4 (by simpa [did] using h); simp [did, this], by simpa [did, sput, hl] using hT⟩
        · have hl : d 10 = false := by
            cases h : d 10
            · rfl
            · have := x4 h; simp [hd] at this
          rw [hl] at hT
          have g5 := h5 (by simp [hdep])
          have g7 := h7 (by simp [hdep])
          unfold OpSteps
          simp [go_sem, evS, g5, g7, hrem, hk1, hk2, hk3, hk4, hwb]
          exact ⟨fun h => by simpa [sput] using h0 (by simpa [did] using h), fun h => by simpa [sput] using h1 (by simpa [did] using h), fun h => by simpa [sput] using h2 (by simpa [did] using h), fun h => by simpa [sput] using h3 (by simpa [did] using h), fun h => by simpa [sput] using h4 (by simpa [did] using h), fun h => by simpa [sput] using h5 (by simpa [did] using h), fun h => by simpa [sput] using h6 (by simpa [did] using h), fun h => by simpa [sput] using h7 (by simpa [did] using h), fun _ => by simp [sput], fun h => by simpa [sput] using h9 (by simpa [did] using h), fun h => by have := x0 (by simpa [did] using h); simp [did, this], fun h => by have := x1 (by simpa [did] using h); simp [did, this], fun h => by have := x2 (by simpa [did] using h); simp [did, this], fun _ => by have y7 := x2 (by simp [hdep]); simp [did, hdep, y7], fun h => by have := x4 (by simpa [did] using h); simp [did, this], by simpa [did, sput, hl] using hT⟩
        · have hl : d 10 = false := by
            cases h : d 10
            · rfl
            · have := x4 h; simp [hd] at this
          rw [hl] at hT
          unfold OpSteps
          simp [go_sem, evS, f6]
          exact ⟨fun h => by simpa [sput] using h0 (by simpa [did] using h), fun h => by simpa [sput] using h1 (by simpa [did] using h), fun h => by simpa [sput] using h2 (by simpa [did] using h), fun h => by simpa [sput] using h3 (by simpa [did] using h), fun h => by simpa [sput] using h4 (by simpa [did] using h), fun h => by simpa [sput] using h5 (by simpa [did] using h), fun h => by simpa [sput] using h6 (by simpa [did] using h), fun h => by simpa [sput] using h7 (by simpa [did] using h), fun h => by simpa [sput] using h8 (by simpa [did] using h), fun _ => by simp [sput], fun h => by have := x0 (by simpa [did] using h); simp [did, this], fun h => by have := x1 (by simpa [did] using h); simp [did, this], fun h => by have := x2 (by simpa [did] using h); simp [did, this], fun h => by have := x3 (by simpa [did] using h); simp [did, this], fun h => by have := x4 (by simpa [did] using h); simp [did, this], by simpa [did, sput, hl] using hT⟩
        · have g0 := h0 (by simp [hdep])
          have g4 := h4 (by simp [hdep])
          have g8 := h8 (by simp [hdep])
          have g9 := h9 (by simp [hdep])
          unfold OpSteps
          simp [go_sem, evS, g0, g4, g8, g9]
          refine (HSet.out W (Ho.out.nxt (hT.1 hd))).mono ?_
          rintro e W' ⟨b9, l2, rfl, y1, y2, y3⟩
          refine ⟨_, rfl, ?_⟩
          exact ⟨fun h => by simpa [sput] using h0 (by simpa [did] using h), fun h => by simpa [sput] using h1 (by simpa [did] using h), fun h => by simpa [sput] using h2 (by simpa [did] using h), fun h => by simpa [sput] using h3 (by simpa [did] using h), fun h => by simpa [sput] using h4 (by simpa [did] using h), fun h => by simpa [sput] using h5 (by simpa [did] using h), fun h => by simpa [sput] using h6 (by simpa [did] using h), fun h => by simpa [sput] using h7 (by simpa [did] using h), fun h => by simpa [sput] using h8 (by simpa [did] using h), fun h => by simpa [sput] using h9 (by simpa [did] using h), fun h => by have := x0 (by simpa [did] using h); simp [did, this], fun h => by have := x1 (by simpa [did] using h); simp [did, this], fun h => by have := x2 (by simpa [did] using h); simp [did, this], fun h => by have := x3 (by simpa [did] using h); simp [did, this], fun _ => by have y4 := x1 (by simp [hdep]); have y8 := x3 (by simp [hdep]); simp [did, hdep, y4, y8], ⟨fun h => by simp [did] at h, fun _ => ⟨l2, y1, y2, (Only.of_below (hT.1 hd)).trans y3⟩⟩⟩
      intro d s W hJ hd
      obtain ⟨h0, h1, h2, h3, h4, h5, h6, h7, h8, h9, x0, x1, x2, x3, x4, hT⟩ := hJ
      have hA := hT.2 (hd 10 (by decide))
      clear h0 h1 h2 h3 h4 h5 h6 h7 h8 h9 x0 x1 x2 x3 x4 hT hd
      obtain ⟨l2, ho2, hp2, hon⟩ := hA
      have HO2 := Lib.hid ho2
      have HP2 := Lib.hid hp2
      have HN2 := Lib.hid (HOn.out.trans hon)
      clear ho2 hp2 hon
      simp [setAll]
      generalize s 38 = s38
      generalize s 39 = s39
      generalize s 40 = s40
      generalize s 41 = s41
      generalize s 42 = s42
      generalize s 43 = s43
      generalize s 44 = s44
      generalize s 45 = s45
      generalize s 46 = s46
      generalize s 47 = s47
      generalize s 48 = s48
      go_wp2_with fail
      go_roundw
      case rel => exact ⟨Q, l2, by omega, by rw [← hQ]; go_num, HO2.out, HP2.out, HN2.out⟩
      case measure => simp [intOf]; omega
    · obtain rfl : q = N := by omega
      have hqc : ¬ (q : Int) < (q : Int) := by omega
      go_wp2_with fail
      go_ret
      exact ⟨rfl, l1, Ho.out, HDone.out q l1 rfl HP.out, (Only.of_below HB3.out).trans HOn.out⟩
end Go.Proofs.Ytbjopdnfjjcpoaa
