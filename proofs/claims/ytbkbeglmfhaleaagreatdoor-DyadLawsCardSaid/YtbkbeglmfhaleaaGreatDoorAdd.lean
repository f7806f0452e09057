/-
Whole numbers: add. Conditions: as each says.
-/
import Derived.Test.YtbkbeglmfhaleaaGreatDoorSumM
import Derived.Test.YtbkbeglmfhaleaaGreatDoorW4
import Derived.Deep.RegionWith
set_option linter.unusedVariables false
namespace Go.Proofs.YtbkbeglmfhaleaaGreatDoor
open Go.RowKit
attribute [local go_sem ↓] Go.wp_at_zero Go.wp_at_succ
attribute [local go_sem ↓] ib_or

theorem run_add (x y c : Nat) (hc : c ≤ 1) (w : World) :
    (callFunc 111 #[.int .u64 x, .int .u64 y, .int .u64 c]).run Tryz.prog w =
      .ok (.value (.tuple #[.int .u64 (((x + y + c) % Q : Nat) : Int), .int .u64 (((x + y + c) / Q : Nat) : Int)])) w := by
  rw [run_callFunc_extern Tryz.func111 (by kernel_rfl) (by kernel_rfl) (by kernel_rfl) (e := add64Entry) (by kernel_rfl), run_add64 x y c (by omega) (by omega) (by omega) (by omega)]
  simp only [Result.andThen, Q_val]
  congr 5 <;> omega
theorem u64s_arr (M : List Nat) (i : Nat) (h : i < M.length) : (u64s M).toArray[i]? = some (.int .u64 (M[i] : Int)) := by
  rw [List.getElem?_toArray]; exact u64s_get M i h
theorem u64s_set (M : List Nat) (i v : Nat) : (u64s M).toArray.setIfInBounds i (.int .u64 (v : Int)) = (u64s (M.set i v)).toArray := by
  simp [u64s, List.map_set]

theorem or_word {d b s : Nat} (hs : s < 64) (hb : b < 2 ^ s) : orU (IntKind.u64.wrap ((d : Int) * 2 ^ s)) (b : Int) = ((d * 2 ^ s % Q + b : Nat) : Int) := by
  obtain ⟨r1, r2⟩ := shl_room (d := d) hs hb
  rw [win_cast2, ← Q_val]
  have hq := Q_val
  exact orU_nat s (by omega) (by omega) hb r2

/-- What add came to. -/
def Added (g n : Nat) (t : TypeId) (T : Nat) (w w' : World) : Prop := ∃ M, Digs Q M ∧ M.length = n ∧ ofd Q M = T ∧ Blk w' g t (u64s M).toArray ∧ Only g w w'
set_option maxHeartbeats 1000000 in
theorem add_any (g n c : Nat) (t : TypeId) (L : List Nat) (A : Option Addr) (m c2 : Nat) (z : Int) (p : Nat) (w : World) (hL : Digs Q L) (hn : L.length = n) (hnb : n ≤ 1099511627776) (hB : Blk w g t (u64s L).toArray) (hW : Wh w A m c2 z)
    (hA : ∀ b o, 0 < m → A = some ⟨b, o, none⟩ → b ≠ g) (hp : p ≤ 70368744177664) (hT : ofd Q L + 2 ^ p * z.natAbs < Q ^ n) (hnc : n ≤ c) :
    Calls Tryz.prog 108 #[.slice (some ⟨g, 0, none⟩) n c, .slice A m c2, .int .i64 (p : Int)] w fun e w' => e = .returned (.tuple #[]) ∧ Added g n t (ofd Q L + 2 ^ p * z.natAbs) w w' := by
  obtain ⟨hm, hmc, hr⟩ := hW
  have hroom : ∀ k, k < m → p / 64 + k < n := fun k hk => add_room (z := z) (by unfold wl at hm; omega) (by omega)
  have hq1 : (p : Int) / 64 = ((p / 64 : Nat) : Int) := by omega
  have hq2 : (p : Int) % 64 = ((p % 64 : Nat) : Int) := by omega
  have hs : p % 64 < 64 := Nat.mod_lt _ (by omega)
  have hqb : p / 64 ≤ 1099511627776 := by omega
  have hmb : m ≤ 1099511627776 := by
    rcases Nat.eq_zero_or_pos m with h0 | h0
    · omega
    · have := hroom (m - 1) (by omega); omega
  have hst := Add1.start (L := L) (D := dig z) (p := p) hL
  have HST := Lib.hid hst
  have HR := Lib.hid hr
  have HM := Lib.hid hm
  have HN := Lib.hid hn
  have HRoom := Lib.hid hroom
  have HA := Lib.hid hA
  have HT := Lib.hid hT
  have HB := Lib.hid hB
  have ho := Add1.step L (dig z) p
  generalize hq : p / 64 = q at *
  generalize hs2 : p % 64 = s at *
  have HO := Lib.hid ho
  have HQ := Lib.hid hq
  have HS2 := Lib.hid hs2
  clear hst hr hm hn hroom hA hT hB hq hs2 hL ho
  go_enter Tryz.func108, Tryz.ntmps108
  go_wp2_with fail
  rw [hq2]
  go_loopw [6, 8, 9, 19] (fun a cc b i wr => ∃ (k C Bd : Nat) (M : List Nat), k ≤ m ∧ a = .int .i64 ((q : Int) + (k : Int)) ∧ cc = .int .u64 C ∧ b = .int .u64 Bd ∧ i = .int .i64 k ∧ Add1 L (dig z) p k M C Bd ∧ Blk wr g t (u64s M).toArray ∧ Only g w wr) (fun _ _ _ i _ => m - (intOf i).toNat)
  case atStart => exact ⟨0, 0, 0, L, Nat.zero_le _, by simp, rfl, rfl, rfl, HST.out, HB.out, Only.refl _ _⟩
  case round =>
    obtain ⟨k, C, Bd, M, hk, rfl, rfl, rfl, rfl, hadd, hBM, hO⟩ := hrel
    by_cases hlt : k < m
    · have hlen : M.length = n := hadd.2.1.trans HN.out
      have hC : C ≤ 1 := hadd.2.2.1
      have hBd : Bd < 2 ^ (p % 64) := hadd.2.2.2.1
      rw [HS2.out] at hBd
      have hkd : k < (dig z).length := by have := HM.out; unfold wl at this; omega
      have hrm : q + k < n := HRoom.out k hlt
      have hi : q + k < M.length := by omega
      obtain ⟨b, o, hAe, hbl, hcell0⟩ := HR.out.at_ (u64s_get (dig z) k hkd)
      subst hAe
      have hne : b ≠ g := HA.out b o (by omega) rfl
      have hcell := hO.cell hne hcell0
      have hget := hBM.cell (q + k)
      rw [u64s_arr M _ hi] at hget
      have hfr := hBM.frozen (q + k)
      have hd := dig_lt z |>.get k hkd
      have hx := (hadd.1).get (q + k) hi
      have hstep := HO.out _ _ _ _ _ _ hadd hkd rfl hd hi rfl
      generalize (dig z)[k] = d at *
      generalize hMx : M[q + k] = x at *
      have ho := or_word (d := d) hs hBd
      obtain ⟨r1, r2⟩ := shl_room (d := d) hs hBd
      generalize d * 2 ^ s % Q + Bd = y at *
      have hrun := fun W => run_add x y C hC W
      have hbeh := @win_cast d (64 - s)
      generalize hv : (x + y + C) % Q = v at *
      generalize hC' : (x + y + C) / Q = C' at *
      generalize d / 2 ^ (64 - s) = Bd' at *
      have hset := hBM.set_ (q + k) (.int .u64 (v : Int))
      rw [u64s_set] at hset
      have HSet := Lib.hid hset
      have HStep := Lib.hid hstep
      have HOn := Lib.hid hO
      have e1 : ((q : Int) + (k : Int)).toNat = q + k := by omega
      have e2 : (0 : Int) ≤ (q : Int) + (k : Int) := by omega
      have e3 : (q : Int) + (k : Int) < (n : Int) := by omega
      have e4 : (k : Int) < (m : Int) := by omega
      have e5 : (s : Int) < 64 := by omega
      clear hset hstep hO hadd hBd hkd hi hcell0 hd hx hMx r1 r2 hC hv hC' hBM hlen hrm
      go_wp2_with fail
      go_region_with (fail)
      go_wp2_with fail
      go_roundw
      case rel => exact ⟨k + 1, C', Bd', M.set (q + k) v, by omega, by go_num, rfl, rfl, by go_num, HStep.out, HSet.out, (HOn.out.set_ _ _).drew⟩
      case measure => simp [intOf]; omega
    · obtain rfl : k = m := by omega
      have hkm : k = (dig z).length := by have := HM.out; unfold wl at this; exact this
      have h2 : Add2 n (ofd Q L + 2 ^ p * z.natAbs) (q + k) M C Bd := by
        have := Add2.start (L := L) (D := dig z) (p := p) (by rw [← hkm]; exact hadd) HN.out
        rw [HQ.out, ← hkm, ofd_dig] at this
        exact this
      have H2 := Lib.hid h2
      have HBM := Lib.hid hBM
      have HOn := Lib.hid hO
      generalize hTT : ofd Q L + 2 ^ p * z.natAbs = T at *
      have HTT := Lib.hid hTT
      clear hTT
      have e4 : ¬ (k : Int) < (k : Int) := by omega
      clear hadd h2 hBM hO hkm
      go_wp2_with fail
      go_loopw [6, 8, 12] (fun a cc r wr => ∃ (i C R : Nat) (M : List Nat), a = .int .i64 (i : Int) ∧ cc = .int .u64 C ∧ r = .int .u64 R ∧ Add2 n T i M C R ∧ Blk wr g t (u64s M).toArray ∧ Only g w wr) (fun a _ _ _ => n - (intOf a).toNat)
      case atStart => exact ⟨q + k, C, Bd, M, by simp, rfl, rfl, H2.out, HBM.out, HOn.out⟩
      case round =>
        obtain ⟨i, C, R, M, rfl, rfl, rfl, hadd, hBM, hO⟩ := hrel
        by_cases hz : C + R = 0
        · obtain ⟨rfl, rfl⟩ : C = 0 ∧ R = 0 := by omega
          have hd := Lib.hid hadd.done
          have HBM := Lib.hid hBM
          have HOn := Lib.hid hO
          clear hadd hBM hO hz
          go_wp2_with fail
          go_end0
          exact ⟨rfl, M, hd.out.1, hd.out.2.1, by rw [hd.out.2.2, HTT.out], HBM.out, HOn.out⟩
        · have hi := hadd.room HT.out hz
          have hlen : M.length = n := hadd.2.1
          have hC : C ≤ 1 := hadd.2.2.1
          have hRq : R < Q := hadd.2.2.2.1
          have hstep := hadd.step (by omega) rfl
          have hget := hBM.cell i
          rw [u64s_arr M _ (by omega)] at hget
          have hfr := hBM.frozen i
          generalize hMx : M[i] = x at *
          have hrun := fun W => run_add x R C hC W
          generalize hv : (x + R + C) % Q = v at *
          generalize hC' : (x + R + C) / Q = C' at *
          have hset := hBM.set_ i (.int .u64 (v : Int))
          rw [u64s_set] at hset
          have HSet := Lib.hid hset
          have HStep := Lib.hid hstep
          have HOn := Lib.hid hO
          have e2 : (i : Int) < (n : Int) := by omega
          by_cases hR : R = 0
          · subst hR
            have t2 : ((C : Int) != 0) = true := by simp; omega
            have e0 : ((0 : Nat) : Int) = 0 := rfl
            rw [e0] at hrun ⊢
            clear hset hstep hO hadd hBM hMx hv hC' hC hz hRq hlen
            go_wp2_with fail
            go_roundw
            case rel => exact ⟨i + 1, C', 0, M.set i v, by go_num, rfl, rfl, HStep.out, HSet.out, (HOn.out.set_ _ _)⟩
            case measure => simp [intOf]; omega
          · have t1 : ((R : Int) != 0) = true := by simp; omega
            clear hset hstep hO hadd hBM hMx hv hC' hC hz hRq hlen hR
            go_wp2_with fail
            go_roundw
            case rel => exact ⟨i + 1, C', 0, M.set i v, by go_num, rfl, rfl, HStep.out, HSet.out, (HOn.out.set_ _ _)⟩
            case measure => simp [intOf]; omega
end Go.Proofs.YtbkbeglmfhaleaaGreatDoor
