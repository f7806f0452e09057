/-
PackBlocks. Conditions: none.
-/
import Derived.Test.YtbjopdnfjjcpoaaPlF
import Derived.BigQuiet
set_option linter.unusedVariables false
set_option linter.unusedSimpArgs false
namespace Go.Proofs.Ytbjopdnfjjcpoaa
open Go.RowKit Go.Sort
attribute [local go_sem ↓] Go.wp_at_zero Go.wp_at_succ
attribute [local go_sem ↓] run_eq2

/-- What the blocks of a number are. -/
structure BlkF (C : List Int) (m : Nat) (n size : Int) : Prop where
  le : m ≤ 4096
  zero : C.getD 0 0 = 0
  last : m ≠ 0 → C.getD m 0 = n
  step : ∀ i, i < m → 1 ≤ C.getD (i + 1) 0 - C.getD i 0 ∧ C.getD (i + 1) 0 - C.getD i 0 ≤ size
  rng : ∀ i, 0 ≤ C.getD i 0 ∧ C.getD i 0 ≤ 4096
theorem BlkF.bad (n size : Int) : BlkF [] 0 n size := ⟨by omega, rfl, fun h => absurd rfl h, fun i h => by omega, fun i => by simp⟩
theorem BlkF.ok {N S : Nat} (l : List Int) (hN : 1 ≤ N) (hN2 : N ≤ 4096) (hS : 1 ≤ S) : BlkF (cuts N S l) ((cuts N S l).length - 1) N S := by
  obtain ⟨h1, h2⟩ := cuts_end (N := N) (S := S) (l := l) hN
  have hl := cutsTo_len (N := N) (S := S) (l := l) N
  have hr := cutsTo_rising (N := N) (S := S) (l := l) N
  have hn := (cutsTo_near (N := N) (l := l) hS N).2
  refine ⟨by unfold cuts; omega, cutsTo_zero N, fun _ => h1, fun i hi => ?_, fun i => ?_⟩
  · have hi2 : i + 1 < (cutsTo N S l N).length := by unfold cuts at hi; omega
    have h3 := hn i hi2
    have h4 := List.pairwise_iff_getElem.1 hr i (i + 1) (by omega) hi2 (by omega)
    unfold cuts
    rw [List.getD_eq_getElem?_getD, List.getD_eq_getElem?_getD, List.getElem?_eq_getElem hi2, List.getElem?_eq_getElem (by omega)] at *
    simp only [Option.getD_some] at *
    omega
  · have := cuts_in (N := N) (S := S) (l := l) N i
    unfold cuts; omega

set_option maxRecDepth 100000 in
set_option maxHeartbeats 2000000 in
theorem packBlocks_core (C : List Int) (m : Nat) (n size : Int) (A : Option Addr) (k c : Nat) (l : List Int) (w : World) (hA : Row w A (i64s l)) (hk : l.length = k) (hk2 : k ≤ 50) (hF : BlkF C m n size)
    (hP : ∀ W, Row W A (i64s l) → Calls Try.prog 21 #[.int .i64 n, .int .i64 size, .slice A k c] W (BlkR C m W))
    (hR : ∀ W, Row W A (i64s l) → Calls Try.prog 22 #[.int .i64 n, .int .i64 size, .slice A k c] W (BlkR C m W)) :
    Calls Try.prog 5 #[.int .i64 n, .int .i64 size, .slice A k c] w fun e w' => e = .returned (.bool true) ∧ Below w.heap.size w w' := by
  have HA := Lib.hid hA
  have HF := Lib.hid hF
  have HP := Lib.hid hP
  have HR := Lib.hid hR
  have hk3 : ¬ (50 : Int) < (k : Int) := by omega
  clear hA hF hP hR hk hk2
  go_enter Try.func5, Try.ntmps5
  go_wp2_with fail
  refine (awake12_any w).mono ?_
  rintro e w1 ⟨rfl, hb⟩
  have HB1 := Lib.hid hb
  have HA1 := Lib.hid (HA.out.below hb)
  clear hb
  go_wp2_with fail
  refine (HP.out w1 HA1.out).mono ?_
  rintro e w2 ⟨A2, c2, rfl, hr, hb⟩
  have HR2 := Lib.hid hr
  have HB2 := Lib.hid (HB1.out.trans (hb.mono HB1.out.size))
  have HA2 := Lib.hid (HA1.out.below hb)
  clear hr hb
  go_wp2_with fail
  refine (HR.out w2 HA2.out).mono ?_
  rintro e w3 ⟨A3, c3, rfl, hr, hb⟩
  have HR3 := Lib.hid hr
  have HR4 := Lib.hid (HR2.out.below hb)
  have HB3 := Lib.hid (HB2.out.trans (hb.mono HB2.out.size))
  clear hr hb HP HR HA1 HA2 HR2 HB2 hk3
  go_wp2_with fail
  go_loopw [9, 10] (fun at_ a wr => ∃ q : Nat, q ≤ m ∧ a = .int .i64 (q : Int) ∧ at_ = .int .i64 (C.getD q 0) ∧ Below w3.heap.size w3 wr) (fun _ a _ => m - (intOf a).toNat)
  case atStart => exact ⟨0, Nat.zero_le _, rfl, by rw [HF.out.zero], Below.refl _ _⟩
  case round =>
    obtain ⟨q, hq, rfl, rfl, hbl⟩ := hrel
    have HBl := Lib.hid hbl
    clear hbl
    by_cases hlt : q < m
    · have hqc : (q : Int) < (m : Int) := by omega
      obtain ⟨b1, o1, rfl, p0, p1⟩ := (HR4.out.below HBl.out).pair hlt
      obtain ⟨b2, o2, rfl, r0, r1⟩ := (HR3.out.below HBl.out).pair hlt
      have hst := HF.out.step q hlt
      have hr1 := HF.out.rng q
      have hr2 := HF.out.rng (q + 1)
      have hq1 : q + 1 ≤ 1048576 := by have := HF.out.le; omega
      obtain ⟨dd, hdd⟩ : ∃ dd, C.getD (q + 1) 0 - C.getD q 0 = dd := ⟨_, rfl⟩
      rw [hdd] at p1 r1 hst
      have HNx := Lib.hid (show IntKind.i64.wrap (C.getD q 0 + dd) = C.getD (q + 1) 0 by rw [wrapi (by omega) (by omega)]; omega)
      obtain ⟨a9, ha9⟩ : ∃ a9, C.getD q 0 = a9 := ⟨_, rfl⟩
      rw [ha9] at p0 r0 HNx ⊢
      have d1 : decide (dd < 1) = false := by simp; omega
      have d2 : decide (size < dd) = false := by simp; omega
      have hnx := HNx.out
      clear hst hr1 hr2 hdd ha9
      go_wp2_with fail
      go_quiet (fail)
      go_wp2_with fail
      go_roundw
      case rel => exact ⟨q + 1, by omega, by go_num, by simp only [hnx, List.getD_eq_getElem?_getD], below_drewN HBl.out nq⟩
      case measure => simp [intOf]; omega
    · obtain rfl : q = m := by omega
      have hqc : ¬ (q : Int) < (q : Int) := by omega
      have HL := Lib.hid HF.out.last
      by_cases h0 : q = 0
      · subst h0
        go_wp2_with fail
        refine (awake12_any _).mono ?_
        rintro e w4 ⟨rfl, hb⟩
        have HBe := Lib.hid (HB3.out.trans ((HBl.out.trans (hb.mono HBl.out.size)).mono HB3.out.size))
        clear hb
        go_wp2_with fail
        go_ret
        exact ⟨rfl, HBe.out⟩
      · have h1 : ((q : Int) == 0) = false := by simp; omega
        have h2 := HL.out h0
        rw [h2]
        clear h2
        go_wp2_with fail
        refine (awake12_any _).mono ?_
        rintro e w4 ⟨rfl, hb⟩
        have HBe := Lib.hid (HB3.out.trans ((HBl.out.trans (hb.mono HBl.out.size)).mono HB3.out.size))
        clear hb
        go_wp2_with fail
        go_ret
        exact ⟨rfl, HBe.out⟩
theorem packBlocks_long (n size : Int) (A : Option Addr) (k c : Nat) (w : World) (hk : 50 < k) :
    Calls Try.prog 5 #[.int .i64 n, .int .i64 size, .slice A k c] w fun e w' => e = .returned (.bool true) ∧ Below w.heap.size w w' := by
  have hk3 : (50 : Int) < (k : Int) := by omega
  go_enter Try.func5, Try.ntmps5
  go_wp2_with fail
  refine (awake12_any w).mono ?_
  rintro e w1 ⟨rfl, hb⟩
  have HB1 := Lib.hid hb
  clear hb
  go_wp2_with fail
  refine (awake12_any w1).mono ?_
  rintro e w2 ⟨rfl, hb⟩
  have HB2 := Lib.hid (HB1.out.trans (hb.mono HB1.out.size))
  clear hb
  go_wp2_with fail
  go_ret
  exact ⟨rfl, HB2.out⟩
theorem packBlocks_walk (n size : Int) (A : Option Addr) (c : Nat) (l : List Int) (w : World) (hn : I64 n) (hs : I64 size) (hA : Row w A (i64s l)) :
    Calls Try.prog 5 #[.int .i64 n, .int .i64 size, .slice A l.length c] w fun e w' => e = .returned (.bool true) ∧ Below w.heap.size w w' := by
  by_cases hk : 50 < l.length
  · exact packBlocks_long n size A l.length c w hk
  · by_cases hb : n < 1 ∨ 4096 < n ∨ size < 1
    · exact packBlocks_core [] 0 n size A l.length c l w hA rfl (by omega) (BlkF.bad n size) (fun W _ => blocks_bad n size _ W hb) (fun W _ => rblocks_bad n size _ W hb)
    · obtain ⟨N, rfl⟩ : ∃ N : Nat, n = N := ⟨n.toNat, by omega⟩
      obtain ⟨S, rfl⟩ : ∃ S : Nat, size = S := ⟨size.toNat, by omega⟩
      have hs2 : S < 9223372036854775808 := by unfold I64 at hs; omega
      exact packBlocks_core (cuts N S l) _ N S A l.length c l w hA rfl (by omega) (BlkF.ok l (by omega) (by omega) (by omega)) (fun W h => blocks_ok N S A l.length c l W (by omega) (by omega) (by omega) hs2 h rfl (by omega)) (fun W h => rblocks_ok N S A l.length c l W (by omega) (by omega) (by omega) hs2 h rfl (by omega))
end Go.Proofs.Ytbjopdnfjjcpoaa
