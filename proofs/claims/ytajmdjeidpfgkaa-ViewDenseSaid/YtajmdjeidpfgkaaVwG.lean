/-
ViewDense. Conditions: the list's words are below 2^64.
-/
import Derived.Test.YtajmdjeidpfgkaaVwF
set_option linter.unusedVariables false
namespace Go.Proofs.Ytajmdjeidpfgkaa
open Go.RowKit
attribute [local go_sem ↓] Go.wp_at_zero Go.wp_at_succ

theorem dense_tab {l M T : List Nat} {r k D N : Nat} (hD : max 1 r = D) (hN : r * k = N) (h : Dense l r k M) (ht : Tab M 0 r k D N T) (q : Nat) (hq : q < N) : T.getD q 0 = l.getD q 0 := by
  subst hN
  have hk : 0 < k := by rcases Nat.eq_zero_or_pos k with rfl | h0 <;> omega
  have hr : 0 < r := by rcases Nat.eq_zero_or_pos r with rfl | h0 <;> omega
  obtain rfl : r = D := by omega
  have h1 : q / k < r := Nat.div_lt_of_lt_mul (by rwa [Nat.mul_comm])
  have h2 : q % k < k := Nat.mod_lt _ hk
  have h3 : q / k * k + q % k = q := by rw [Nat.mul_comm]; exact Nat.div_add_mod q k
  have h4 := ht.2 (q / k) (q % k) h1 h2 (by omega)
  rw [h3, Nat.zero_add] at h4
  rw [h4]
  exact h.2 q hq
theorem dense_good (r k D N : Nat) (hD : max 1 r = D) (hN : r * k = N) : matB N 0 r k D = true := by
  refine decide_eq_true ⟨by omega, by omega, by omega, by omega, by omega, ?_⟩
  by_cases hr : r = 0
  · exact .inl (by omega)
  by_cases hk : k = 0
  · exact .inr (.inl (by omega))
  refine .inr (.inr ?_)
  obtain rfl : r = D := by omega
  subst hN
  have h1 : ((k : Int) - 1) * (r : Int) = (k : Int) * r - r := by rw [Int.sub_mul, Int.one_mul]
  have h2 : ((r * k : Nat) : Int) = (k : Int) * r := by rw [Int.natCast_mul, Int.mul_comm]
  rw [h1, h2]; omega

/-- Too long a list. -/
theorem viewDense_long (A : Option Addr) (n c : Nat) (r k : Int) (w : World) (h : 5000 < n) :
    Calls Try.prog 6 #[.int .i64 r, .int .i64 k, .slice A n c] w fun e w' => e = .returned (.bool true) ∧ Below w.heap.size w w' := by
  go_enter Try.func6, Try.ntmps6
  have h1 : (5000 : Int) < (n : Int) := by omega
  go_wp2_with fail
  refine (awake_any _).mono ?_
  rintro e w1 ⟨rfl, hb1⟩
  go_wp2_with fail
  refine (awake_any _).mono ?_
  rintro e w2 ⟨rfl, hb2⟩
  go_wp2_with fail
  go_ret
  exact ⟨rfl, hb1.trans (hb2.mono hb1.size)⟩

/-- Sizes that are too small or too great. -/
theorem viewDense_size (A : Option Addr) (n c : Nat) (r k : Int) (w : World) (h : n ≤ 5000) (hs : r < 0 ∨ 64 < r ∨ k < 0 ∨ 64 < k) :
    Calls Try.prog 6 #[.int .i64 r, .int .i64 k, .slice A n c] w fun e w' => e = .returned (.bool true) ∧ Below w.heap.size w w' := by
  have hd : (decide (r < 0) || decide (k < 0) || decide (64 < r) || decide (64 < k)) = true := by simp; omega
  have hd1 : (r < 0) ∨ (0 ≤ r ∧ k < 0) ∨ (0 ≤ r ∧ 0 ≤ k ∧ 64 < r) ∨ (0 ≤ r ∧ 0 ≤ k ∧ r ≤ 64 ∧ 64 < k) := by omega
  have HS := Lib.hid hs
  clear hs hd
  go_enter Try.func6, Try.ntmps6
  have h1 : ¬ (5000 : Int) < (n : Int) := by omega
  go_wp2_with fail
  refine (awake_any _).mono ?_
  rintro e w1 ⟨rfl, hb1⟩
  have HB1 := Lib.hid hb1
  clear hb1
  go_wp2_with fail
  refine (dense_zero A c n r k _ HS.out).mono ?_
  rintro e w2 ⟨rfl, hb2⟩
  have HB2 := Lib.hid (HB1.out.trans (hb2.mono HB1.out.size))
  have hb3 := HB2.out.alloc HB2.out.size (.cells #[.slice none 0 0, .int .i64 0, .int .i64 0, .int .i64 0, .int .i64 0] 26)
  have HB3 := Lib.hid hb3
  clear hb2 hb3
  unfold mat
  rcases hd1 with d1 | ⟨d1, d2⟩ | ⟨d1, d2, d3⟩ | ⟨d1, d2, d3, d4⟩
  all_goals
    go_wp2_with fail
    refine (awake_any _).mono ?_
    rintro e w4 ⟨rfl, hb4⟩
    go_wp2_with fail
    go_ret
    exact ⟨rfl, HB3.out.trans (hb4.mono HB3.out.size)⟩

set_option maxHeartbeats 2000000 in
/-- The rest. -/
theorem viewDense_good (A : Option Addr) (c : Nat) (l : List Nat) (r k : Nat) (w : World) (h : l.length ≤ 5000) (hlc : l.length ≤ c) (hr : r ≤ 64) (hk : k ≤ 64) (hW : Wds l) (hA : Row w A (f64s l)) :
    Calls Try.prog 6 #[.int .i64 r, .int .i64 k, .slice A l.length c] w fun e w' => e = .returned (.bool true) ∧ Below w.heap.size w w' := by
  obtain ⟨D, hD⟩ : ∃ D, max 1 r = D := ⟨_, rfl⟩
  obtain ⟨N, hN⟩ : ∃ N, r * k = N := ⟨_, rfl⟩
  have hNb : N ≤ 4096 := by rw [← hN]; calc r * k ≤ 64 * 64 := Nat.mul_le_mul hr hk
    _ = 4096 := rfl
  have HDn := Lib.hid (fun W (hA : Row W A (f64s l)) => dense_some A c l r k W hr hk hA (by omega) hlc)
  rw [hN, hD] at HDn
  have HGd := Lib.hid (fun W (g : Nat) => rgood_any (some ⟨g, 0, none⟩) N N 0 r k D W (by omega) (by unfold I64; omega) (by unfold I64; omega) (by unfold I64; omega) (by unfold I64; omega))
  have hgd := dense_good r k D N hD hN
  rw [hgd] at HGd
  have HOf := Lib.hid (fun W (g : Nat) (M : List Nat) (hM : Row W (some ⟨g, 0, none⟩) (f64s M)) (hl : M.length = N) => rof_any (some ⟨g, 0, none⟩) N N M 0 r k D N W hM hl (by omega) hN (by omega) (by omega) (by omega) (by
    have := of_decide_eq_true hgd
    rcases this.2.2.2.2.2 with h | h | h
    · exact .inl (by omega)
    · exact .inr (.inl (by omega))
    · rcases Nat.eq_zero_or_pos k with hk0 | hk0
      · exact .inr (.inl hk0)
      rcases Nat.eq_zero_or_pos r with hr0 | hr0
      · exact .inl hr0
      refine .inr (.inr ?_)
      have e : ((k : Int) - 1) * (D : Int) = (((k - 1) * D : Nat) : Int) := by rw [Int.natCast_mul]; congr 1; omega
      rw [e] at h
      omega))
  generalize hn : l.length = n at *
  have Hn := Lib.hid hn
  have HD := Lib.hid hD
  have HN := Lib.hid hN
  have HW := Lib.hid hW
  have HA := Lib.hid hA
  have d1 : ¬ (r : Int) < 0 := by omega
  have d2 : ¬ (k : Int) < 0 := by omega
  have d3 : ¬ (64 : Int) < (r : Int) := by omega
  have d4 : ¬ (64 : Int) < (k : Int) := by omega
  have h1 : ¬ (5000 : Int) < (n : Int) := by omega
  have eD : (if (r : Int) < 1 then (1 : Int) else (r : Int)) = (D : Int) := by rw [← hD]; split <;> omega
  have eN : (r : Int) * (k : Int) = (N : Int) := by rw [← hN]; simp
  clear hn hD hN hW hA hgd
  go_enter Try.func6, Try.ntmps6
  go_wp2_with fail
  refine (awake_any _).mono ?_
  rintro e w1 ⟨rfl, hb1⟩
  have HB1 := Lib.hid hb1
  clear hb1
  go_wp2_with fail
  refine (HDn.out _ (HA.out.below HB1.out)).mono ?_
  rintro e w2 ⟨g, M, rfl, hM, hrow, hg, hb2⟩
  have HM := Lib.hid hM
  have HB2 := Lib.hid (HB1.out.trans (hb2.mono HB1.out.size))
  have HBlk := Lib.hid (Blk.new w2 26 #[.slice (some ⟨g, 0, none⟩) N N, .int .i64 0, .int .i64 r, .int .i64 k, .int .i64 D])
  have HB3 := Lib.hid (HB2.out.alloc HB2.out.size (.cells #[.slice (some ⟨g, 0, none⟩) N N, .int .i64 0, .int .i64 r, .int .i64 k, .int .i64 D] 26))
  have HRow := Lib.hid (hrow.below ((Below.refl w2.heap.size w2).alloc (Nat.le_refl _) (.cells #[.slice (some ⟨g, 0, none⟩) N N, .int .i64 0, .int .i64 r, .int .i64 k, .int .i64 D] 26)))
  obtain ⟨c0, c1, c2, c3, c4⟩ := cells5 HBlk.out
  clear hb2 hrow hM
  unfold mat
  go_wp2_with fail
  refine (HGd.out _ g).mono ?_
  rintro e w3 ⟨rfl, hb4⟩
  obtain ⟨k0, k1, k2, k3, k4⟩ := cells5 (HBlk.out.nxt hb4)
  have HRow3 := Lib.hid (HRow.out.below hb4)
  have HB4 := Lib.hid (HB3.out.trans (hb4.mono HB3.out.size))
  clear hb4 c0 c1 c2 c3 c4
  go_wp2_with fail
  refine (HOf.out _ g M HRow3.out (by rw [← HN.out]; exact HM.out.1)).mono ?_
  rintro e w4 ⟨g', T, rfl, hT, hrow, hg', hb5⟩
  have HT := Lib.hid hT
  have HB5 := Lib.hid (HB4.out.trans (hb5.mono HB4.out.size))
  have HB6 := Lib.hid (HB5.out.alloc HB5.out.size (.cells #[.int .i64 r, .int .i64 k, .slice (some ⟨g', 0, none⟩) N N] 39))
  have HRowT := Lib.hid (hrow.below ((Below.refl w4.heap.size w4).alloc (Nat.le_refl _) (.cells #[.int .i64 r, .int .i64 k, .slice (some ⟨g', 0, none⟩) N N] 39)))
  have HRowL := Lib.hid (HA.out.below HB6.out)
  have hbo := Blk.new w4 39 #[.int .i64 r, .int .i64 k, .slice (some ⟨g', 0, none⟩) N N]
  have HBo := Lib.hid hbo
  clear hT hrow hb5 hbo k0 k1 k2 k3 k4
  unfold tbl
  go_wp2_with fail
  generalize hq : w4.heap.size = q at *
  generalize w4.alloc (.cells #[.int .i64 r, .int .i64 k, .slice (some ⟨g', 0, none⟩) N N] 39) = W4 at *
  obtain ⟨c0, c1, c2⟩ := cells3v HBo.out
  go_loop [9] (fun i => ∃ a : Nat, a ≤ N ∧ i = .int .i64 (a : Int)) (fun i => N - (intOf i).toNat)
  case atStart => exact ⟨0, Nat.zero_le _, rfl⟩
  case round =>
    obtain ⟨a, haN, rfl⟩ := hrel
    by_cases hlt : a < N
    · have hlt1 : (a : Int) < (N : Int) := by omega
      have hTl : T.length = N := by rw [← HN.out]; exact HT.out.1
      have haT : a < T.length := by omega
      obtain ⟨b, o, hbo, _, hcell⟩ := HRowT.out.at_ (f64s_get T a haT)
      injection hbo with hbo; injection hbo with hb1 ho1 _
      subst hb1 ho1
      rw [Nat.zero_add] at hcell
      have hval := dense_tab HD.out HN.out HM.out HT.out a hlt
      have hTa : T.getD a 0 = T[a] := by simp [List.getD, haT]
      rw [hTa] at hval
      rw [hval] at hcell
      by_cases hn1 : a < n
      · have hn2 : (a : Int) < (n : Int) := by omega
        have hal : a < l.length := by rw [Hn.out]; exact hn1
        obtain ⟨b2, o2, rfl, _, hcell2⟩ := HRowL.out.at_ (f64s_get l a hal)
        have hla : l.getD a 0 = l[a] := by simp [List.getD, hal]
        rw [hla] at hcell
        have HWa := Lib.hid (HW.out.at_ a hal)
        generalize l[a] = x at *
        clear hval hTa haT hla hal
        go_wp2_with fail
        refine (rsame_v x x _ HWa.out HWa.out).mono ?_
        rintro e w' ⟨rfl, rfl⟩
        rw [sameB_refl]
        go_wp2_with fail
        go_round
        case rel => exact ⟨a + 1, by omega, by go_num⟩
        case measure => simp [intOf]; omega
      · have hn2 : ¬ (a : Int) < (n : Int) := by omega
        have hal : l.length ≤ a := by rw [Hn.out]; omega
        have hla : l.getD a 0 = 0 := by simp [List.getD, List.getElem?_eq_none hal]
        rw [hla] at hcell
        clear hval hTa haT hla hal
        go_wp2_with fail
        refine (rsame_v 0 0 _ (by omega) (by omega)).mono ?_
        rintro e w' ⟨rfl, rfl⟩
        rw [sameB_refl]
        go_wp2_with fail
        go_round
        case rel => exact ⟨a + 1, by omega, by go_num⟩
        case measure => simp [intOf]; omega
    · obtain rfl : a = N := by omega
      go_wp2_with fail
      refine (awake_any _).mono ?_
      rintro e w9 ⟨rfl, hb9⟩
      go_wp2_with fail
      go_ret
      exact ⟨rfl, HB6.out.trans (hb9.mono HB6.out.size)⟩

theorem viewDense_walk (A : Option Addr) (c : Nat) (l : List Nat) (r k : Int) (w : World) (hlc : l.length ≤ c) (hW : Wds l) (hA : Row w A (f64s l)) :
    Calls Try.prog 6 #[.int .i64 r, .int .i64 k, .slice A l.length c] w fun e w' => e = .returned (.bool true) ∧ Below w.heap.size w w' := by
  by_cases h : 5000 < l.length
  · exact viewDense_long A _ c r k w h
  by_cases hs : r < 0 ∨ 64 < r ∨ k < 0 ∨ 64 < k
  · exact viewDense_size A _ c r k w (by omega) hs
  · obtain ⟨r', rfl⟩ : ∃ r' : Nat, r = (r' : Int) := ⟨r.toNat, by omega⟩
    obtain ⟨k', rfl⟩ : ∃ k' : Nat, k = (k' : Int) := ⟨k.toNat, by omega⟩
    exact viewDense_good A c l r' k' w (by omega) hlc (by omega) (by omega) hW hA
end Go.Proofs.Ytajmdjeidpfgkaa
