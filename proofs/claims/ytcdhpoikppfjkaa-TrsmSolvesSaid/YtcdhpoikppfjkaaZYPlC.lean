/-
Where places are cut: the program's list. Conditions: 1 to 4096 places, blocks of at least 1, at most 50 more.
-/
import Derived.Test.YtcdhpoikppfjkaaWaap
import Derived.Test.YtcdhpoikppfjkaaWaaj
import Derived.Test.YtcdhpoikppfjkaaWaai
set_option linter.unusedVariables false
set_option linter.unusedSimpArgs false
namespace Go.Proofs.Ytcdhpoikppfjkaa
open Go.RowKit Go.Sort
attribute [local go_sem ↓] Go.wp_at_zero Go.wp_at_succ

/-- A list of ints of the call's own. -/
def OwI (w : World) (lo : Nat) (v : Value) (l : List Int) : Prop := w.ownsRow lo 3 1 v l.length (i64s l) ∧ l ≠ []
theorem OwI.below {w w' : World} {lo : Nat} {v : Value} {l : List Int} (h : OwI w lo v l) (hb : Below w.heap.size w w') : OwI w' lo v l := by
  refine ⟨⟨h.1.1, h.1.2.imp id ?_⟩, h.2⟩
  rintro ⟨g, cap, cur, h1, h2, h3, h4⟩
  have hlt : g < w.heap.size := by
    rcases Nat.lt_or_ge g w.heap.size with hl | hl
    · exact hl
    · rw [Array.getElem?_eq_none hl] at h3; cases h3
  exact ⟨g, cap, cur, h1, h2, (hb.block g hlt).trans h3, h4⟩
theorem OwI.blk {w : World} {lo : Nat} {v : Value} {l : List Int} (h : OwI w lo v l) : ∃ g cap cs, v = .slice (some ⟨g, 0, none⟩) l.length cap ∧ lo ≤ g ∧ Blk w g 3 cs ∧ cs.toList.take l.length = i64s l ∧ l.length ≤ cs.size ∧ l.length ≤ cap := by
  obtain ⟨⟨h0, ⟨_, h1⟩ | ⟨g, cap, cur, h1, h2, h3, h4, h5, h6, h7⟩⟩, hne⟩ := h
  · exact absurd (List.length_eq_zero_iff.1 h1) hne
  · exact ⟨g, cap, cur, h1, h2, h3, by simpa using h7, by omega, h4⟩
/-- What the multiples come to, step by step. -/
def MulS (N S q p : Nat) : Prop := p = q * S ∧ ∀ j, j < q → j * S < N
theorem MulS.next {N S q p : Nat} (h : MulS N S q p) (hp : p < N) : MulS N S (q + 1) (p + S) := by
  refine ⟨by rw [h.1, Nat.add_mul]; omega, fun j hj => ?_⟩
  by_cases e : j = q
  · subst e; rw [← h.1]; exact hp
  · exact h.2 j (by omega)
/-- No sum goes beyond an int. -/
theorem MulS.room {N S q p : Nat} (h : MulS N S q p) (hp : p < N) (hN : N ≤ 4096) (hS : S < 9223372036854775808) : p + S < 9223372036854775808 := by
  by_cases e : q = 0
  · have := h.1; subst e; simp at this; omega
  · by_cases e1 : q = 1
    · have := h.1; subst e1; simp at this; omega
    · have h2 := h.2 1 (by omega); omega
theorem MulS.len {N S q p : Nat} (h : MulS N S q p) (hS : 1 ≤ S) : q ≤ N := by
  rcases Nat.eq_zero_or_pos q with e | e
  · omega
  · have h2 := h.2 (q - 1) (by omega)
    have : q - 1 ≤ (q - 1) * S := Nat.le_mul_of_pos_right _ hS
    omega
theorem mults_length (S q : Nat) : (mults S q).length = q := by simp [mults]
/-- What of more is among n places. -/
def inN (N : Nat) (l : List Int) : List Int := l.filter fun p => decide (0 ≤ p) && decide (p ≤ (N : Int))
theorem inN_take {N : Nat} {l : List Int} {k : Nat} (h : k < l.length) : inN N (l.take (k + 1)) = inN N (l.take k) ++ if (decide (0 ≤ l[k]) && decide (l[k] ≤ (N : Int))) = true then [l[k]] else [] := by
  unfold inN
  rw [List.take_succ_eq_append_getElem h, List.filter_append]
  congr 1
  by_cases e : (decide (0 ≤ l[k]) && decide (l[k] ≤ (N : Int))) = true
  · rw [if_pos e]
    simp only [List.filter_cons, e, if_true, List.filter_nil]
  · rw [if_neg e]
    simp only [List.filter_cons, if_neg e, List.filter_nil]
/-- The list of ints, one more at its end. -/
theorem owi_snoc {w' : World} {lo : Nat} {v : Value} {l : List Int} {x : Int} {n : Nat} (hn : n = l.length) (h : w'.ownsRow lo 3 1 v (n + 1) (i64s l ++ [.int .i64 x])) : OwI w' lo v (l ++ [x]) := by
  refine ⟨?_, by simp⟩
  rw [i64s_snoc, List.length_append, List.length_singleton, ← hn]
  exact h
def CutR (C : List Int) (w : World) (e : Ending) (w' : World) : Prop := ∃ g cap, e = .returned (.slice (some ⟨g, 0, none⟩) C.length cap) ∧ Row w' (some ⟨g, 0, none⟩) (i64s C) ∧ C.length ≤ cap ∧ w.heap.size ≤ g ∧ g < w'.heap.size ∧ Below w.heap.size w w'
theorem one_cell {W : World} {b : Nat} {t : TypeId} {x : Value} (h : Blk W b t #[x]) : ∀ (j : Nat) (u : Value), [x][j]? = some u → W.cell? ((⟨b, 0, none⟩ : Addr).add j) = some u := fun j u hj => by
  match j, hj with
  | 0, hj =>
    have : u = x := by simpa using hj.symm
    subst this
    exact h.cell 0
  | j + 1, hj => simp at hj

set_option maxRecDepth 100000 in
set_option maxHeartbeats 1000000 in
theorem cuts_any (N S : Nat) (A : Option Addr) (n c : Nat) (l : List Int) (w : World) (hN : 1 ≤ N) (hN2 : N ≤ 4096) (hS : 1 ≤ S) (hS2 : S < 9223372036854775808) (hA : Row w A (i64s l)) (hln : l.length = n) (hl : l.length ≤ 50) :
    Calls Try.prog 60 #[.int .i64 (N : Int), .int .i64 (S : Int), .slice A n c] w (CutR (cuts N S l) w) := by
  obtain ⟨i0, hi, hz0, hz1, hz2⟩ := ii0
  have HA := Lib.hid hA
  have HN := Lib.hid hN
  have Hln := Lib.hid hln
  have HS := Lib.hid hS
  have HL := Lib.hid hl
  clear hA hl hln
  go_enter Try.func60, Try.ntmps60
  have HO := Lib.hid (show OwI (w.alloc (.cells #[.int .i64 (N : Int)] 3)) w.heap.size (.slice (some ⟨w.heap.size, 0, none⟩) 1 1) ((N : Int) :: (mults S 0 ++ inN N (l.take 0))) from ⟨own_one w _ _, by simp⟩)
  have HB := Lib.hid ((Below.refl w.heap.size w).alloc (Nat.le_refl _) (.cells #[.int .i64 (N : Int)] 3))
  go_wp2_with fail
  generalize hw1 : w.alloc (.cells #[.int .i64 (N : Int)] 3) = w1 at *
  have Hw1 := Lib.hid (show w.heap.size ≤ w1.heap.size from HB.out.size)
  clear hw1
  go_loopw [7, 8] (fun out a wr => ∃ q p : Nat, a = .int .i64 (p : Int) ∧ Hid (MulS N S q p) ∧ OwI wr w.heap.size out ((N : Int) :: (mults S q ++ inN N (l.take 0))) ∧ Below w.heap.size w wr) (fun _ a _ => N - (intOf a).toNat)
  case atStart => exact ⟨0, 0, rfl, Lib.hid ⟨by simp, fun j h => by omega⟩, HO.out, HB.out⟩
  case round =>
    obtain ⟨q, p, rfl, HM, hown, hbl⟩ := hrel
    have HBl := Lib.hid hbl
    have HOw := Lib.hid hown
    clear hown hbl
    by_cases hlt : p < N
    · have hpc : (p : Int) < (N : Int) := by omega
      have hroom := HM.out.room hlt hN2 hS2
      have HM2 := Lib.hid (HM.out.next hlt)
      have hqN := HM.out.len HS.out
      have HN2 := Lib.hid (Blk.new wr 3 #[.int .i64 (p : Int)])
      have HOw2 := Lib.hid (HOw.out.1.alloc (.cells #[.int .i64 (p : Int)] 3))
      have hlen : ((N : Int) :: (mults S q ++ inN N (l.take 0))).length = q + 1 := by simp [mults_length, inN]
      rw [hlen] at HOw2
      have HBs := Lib.hid HBl.out.size
      go_wp2_with (at_builtin; refine wpList_append_own _ rfl _ _ 91 rfl w.heap.size 3 i0 (.int .i64 0) 1 8 Try.underlying91 hi hz0 hz1 hz2 rfl (by decide) _ (q + 1) (i64s ((N : Int) :: (mults S q ++ inN N (l.take 0)))) rfl HOw2.out ⟨wr.heap.size, 0, none⟩ 1 1 [.int .i64 (p : Int)] rfl rfl ?c1 (by intro u hu; simp at hu; subst hu; rfl) ?c3 ?c4 ?c5 ?_)
      case c1 => exact one_cell HN2.out
      case c3 => unfold maxLen; omega
      case c4 => omega
      case c5 => simp; have := HBs.out; omega
      intro v' w' hown' hgrow _
      have HOw3 := Lib.hid (show OwI w' w.heap.size v' ((N : Int) :: (mults S (q + 1) ++ inN N (l.take 0))) from by
        have h := owi_snoc hlen.symm hown'
        rw [mults_succ, ← HM.out.1]
        simpa [inN] using h)
      have HBl3 := Lib.hid ((HBl.out.alloc HBl.out.size (.cells #[.int .i64 (p : Int)] 3)).grown hgrow (by simp; have := HBs.out; omega) (fun k hk => by have := (HOw2.out.lt k hk).1; omega))
      clear hown' hgrow
      have HS' := HS.out
      go_wp2_with fail
      go_roundw
      case rel => exact ⟨q + 1, p + S, by go_num, HM2, HOw3.out, HBl3.out⟩
      case measure => simp [intOf]; omega
    · have hpc : ¬ (p : Int) < (N : Int) := by omega
      have HRaw := Lib.hid (show ∀ Z, raw N S q l = Z → Lib.compact (Z.mergeSort fun x y => decide (x ≤ y)) = cuts N S l from fun Z hZ => hZ ▸ raw_cuts l hN hS HM.out.2 (by rw [← HM.out.1]; omega))
      have hqN := Lib.hid (HM.out.len hS)
      clear HM
      go_wp2_with fail
      have HnL := Lib.hid (show n ≤ 50 by rw [← Hln.out]; exact HL.out)
      clear hN hS hS2 hlt
      go_loopw [7, 25] (fun out a w2 => ∃ k : Nat, k ≤ n ∧ a = .int .i64 (k : Int) ∧ OwI w2 w.heap.size out ((N : Int) :: (mults S q ++ inN N (l.take k))) ∧ Below w.heap.size w w2) (fun _ a _ => n - (intOf a).toNat)
      case atStart => exact ⟨0, Nat.zero_le _, rfl, HOw.out, HBl.out⟩
      case round =>
        obtain ⟨k, hk, rfl, hown, hbl⟩ := hrel
        have HBm := Lib.hid hbl
        have HOm := Lib.hid hown
        clear hown hbl
        by_cases hlk : k < n
        · have hkc : (k : Int) < (n : Int) := by omega
          have hkl : k < l.length := by rw [Hln.out]; exact hlk
          obtain ⟨b, x, rfl, _, hcell0⟩ := HA.out.at_ (i64s_get l _ hkl)
          have hcell := cell_below hcell0 HBm.out
          clear hcell0
          have HT := Lib.hid (inN_take (N := N) hkl)
          have hk1 : k + 1 ≤ 1048576 := by have := HnL.out; omega
          generalize hzv : l[k] = z at *
          clear hzv hkl
          by_cases gz1 : (0 : Int) ≤ z
          · by_cases gz2 : z ≤ (N : Int)
            · have HN2 := Lib.hid (Blk.new wr 3 #[.int .i64 z])
              have HOw2 := Lib.hid (HOm.out.1.alloc (.cells #[.int .i64 z] 3))
              obtain ⟨m, hm⟩ : ∃ m, ((N : Int) :: (mults S q ++ inN N (l.take k))).length = m := ⟨_, rfl⟩
              have hmb : m ≤ 5000 := by
                rw [← hm]
                simp only [List.length_cons, List.length_append, mults_length]
                have h1 : (inN N (l.take k)).length ≤ k := Nat.le_trans (List.length_filter_le _ _) (by simp; omega)
                have := HnL.out
                have := hqN.out
                omega
              rw [hm] at HOw2
              have HBs := Lib.hid HBm.out.size
              go_wp2_with (at_builtin; refine wpList_append_own _ rfl _ _ 91 rfl w.heap.size 3 i0 (.int .i64 0) 1 8 Try.underlying91 hi hz0 hz1 hz2 rfl (by decide) _ m (i64s ((N : Int) :: (mults S q ++ inN N (l.take k)))) rfl HOw2.out ⟨wr.heap.size, 0, none⟩ 1 1 [.int .i64 z] rfl rfl ?c1 (by intro u hu; simp at hu; subst hu; rfl) ?c3 ?c4 ?c5 ?_)
              case c1 => exact one_cell HN2.out
              case c3 => unfold maxLen; omega
              case c4 => omega
              case c5 => simp; have := HBs.out; omega
              intro v' w' hown' hgrow _
              have HOw3 := Lib.hid (show OwI w' w.heap.size v' ((N : Int) :: (mults S q ++ inN N (l.take (k + 1)))) from by
                have h := owi_snoc hm.symm hown'
                rw [HT.out, if_pos (by simp [gz1, gz2])]
                simpa using h)
              have HBl3 := Lib.hid ((HBm.out.alloc HBm.out.size (.cells #[.int .i64 z] 3)).grown hgrow (by simp; have := HBs.out; omega) (fun k hk => by have := (HOw2.out.lt k hk).1; omega))
              clear hown' hgrow
              go_wp2_with fail
              go_roundw
              case rel => exact ⟨k + 1, by omega, by go_num, HOw3.out, HBl3.out⟩
              case measure => simp [intOf]; omega
            · have HOw3 := Lib.hid (show OwI wr w.heap.size _ ((N : Int) :: (mults S q ++ inN N (l.take (k + 1)))) from by
                rw [HT.out, if_neg (by simp [gz2])]
                simpa using HOm.out)
              go_wp2_with fail
              go_roundw
              case rel => exact ⟨k + 1, by omega, by go_num, HOw3.out, HBm.out⟩
              case measure => simp [intOf]; omega
          · have HOw3 := Lib.hid (show OwI wr w.heap.size _ ((N : Int) :: (mults S q ++ inN N (l.take (k + 1)))) from by
              rw [HT.out, if_neg (by simp [gz1])]
              simpa using HOm.out)
            go_wp2_with fail
            go_roundw
            case rel => exact ⟨k + 1, by omega, by go_num, HOw3.out, HBm.out⟩
            case measure => simp [intOf]; omega
        · obtain rfl : k = n := by omega
          have hkc : ¬ (k : Int) < (k : Int) := by omega
          obtain ⟨Z, hZ⟩ : ∃ Z, (N : Int) :: (mults S q ++ inN N (l.take k)) = Z := ⟨_, rfl⟩
          have hZ2 : raw N S q l = Z := by rw [← hZ, ← Hln.out, List.take_length]; rfl
          have hR := HRaw.out Z hZ2
          rw [hZ] at HOm
          have hZl : Z.length ≤ 5000 := by
            rw [← hZ]
            simp only [List.length_cons, List.length_append, mults_length]
            have h1 : (inN N (l.take k)).length ≤ k := Nat.le_trans (List.length_filter_le _ _) (by simp; omega)
            have := HnL.out
            have := hqN.out
            omega
          clear hZ hZ2
          obtain ⟨g, cap, cs, rfl, hg, hB, ht, hcs, hcap⟩ := HOm.out.blk
          have HSo := Lib.hid (sort_own (cap := cap) hB ht (by omega) hcs)
          have HBk := Lib.hid hB
          clear hB ht
          obtain ⟨zl, hzl⟩ : ∃ zl, Z.length = zl := ⟨_, rfl⟩
          rw [hzl] at HSo
          go_wp2_with fail
          refine HSo.out.mono ?_
          rintro e w3 ⟨rfl, cs', hB', hs', ht', hb'⟩
          have hl2 : (Z.mergeSort fun x y => decide (x ≤ y)).length = zl := by rw [List.length_mergeSort]; exact hzl
          have HCo := Lib.hid (compact_own (cap := cap) hB' (by rw [hl2]; exact ht') (by omega) (by omega) (by omega))
          rw [hl2, hR] at HCo
          have HBe := Lib.hid (HBm.out.trans (hb'.mono hg))
          have hg3 := hB'.lt
          have HCl := Lib.hid (show (cuts N S l).length ≤ cap by rw [← hR]; exact Nat.le_trans (compact_len _) (by omega))
          clear hB' ht' hb' hR
          go_wp2_with fail
          refine HCo.out.mono ?_
          rintro e w4 ⟨rfl, hrow, hb⟩
          have HBf := Lib.hid (HBe.out.trans (hb.mono hg))
          have HRow := Lib.hid hrow
          have hg4 : g < w4.heap.size := Nat.lt_of_lt_of_le hg3 hb.size
          clear hrow hb
          go_wp2_with fail
          go_ret
          exact ⟨g, cap, rfl, HRow.out, HCl.out, hg, hg4, HBf.out⟩
end Go.Proofs.Ytcdhpoikppfjkaa
