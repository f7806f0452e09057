/-
Whole numbers: add. Conditions: as each says.
-/
import Derived.Test.YtdokpnfmmbkjfaaGreatDoorGb
import Derived.Test.YtdokpnfmmbkjfaaGreatDoorGj
import Derived.Deep.RegionWith
import Derived.Shelf.Spec.BitsCarry
set_option linter.unusedVariables false
namespace Go.Proofs.YtdokpnfmmbkjfaaGreatDoor
open Go.RowKit
attribute [local go_sem ↓] Go.wp_at_zero Go.wp_at_succ
attribute [local go_sem ↓] ib_or

theorem run_add (x y c : Nat) (hc : c ≤ 1) (w : World) :
    (callFunc 122 #[.int .u64 x, .int .u64 y, .int .u64 c]).run Tryz.prog w =
      .ok (.value (.tuple #[.int .u64 (((x + y + c) % Q : Nat) : Int), .int .u64 (((x + y + c) / Q : Nat) : Int)])) w := by
  rw [run_callFunc_extern Tryz.func122 (by kernel_rfl) (by kernel_rfl) (by kernel_rfl) (e := add64Entry) (by kernel_rfl), run_add64 x y c (by omega) (by omega) (by omega) (by omega)]
  simp only [Result.andThen, Q_val]
  congr 5 <;> omega
theorem u64s_arr (M : List Nat) (i : Nat) (h : i < M.length) : (u64s M).toArray[i]? = some (.int .u64 (M[i] : Int)) := by
  rw [List.getElem?_toArray]; exact u64s_get M i h
theorem u64s_set (M : List Nat) (i v : Nat) : (u64s M).toArray.setIfInBounds i (.int .u64 (v : Int)) = (u64s (M.set i v)).toArray := by
  simp [u64s, List.map_set]

theorem or_word {d b s : Nat} (hs : s < 64) (hb : b < 2 ^ s) : orU (IntKind.u64.wrap ((d : Int) * 2 ^ s)) (b : Int) = ((d * 2 ^ s % Q + b : Nat) : Int) := by
  obtain ⟨r1, r2⟩ := shl_room (d := d) hs hb
  rw [win_cast2, ← Q_val]
  have hq := Q_val
  exact orU_nat s (by omega) (by omega) hb r2

/-- What add came to. -/
def Added (g n : Nat) (t : TypeId) (T : Nat) (w w' : World) : Prop := ∃ M, Digs Q M ∧ M.length = n ∧ ofd Q M = T ∧ Blk w' g t (u64s M).toArray ∧ Only g w w'
set_option maxHeartbeats 1000000 in
theorem add_any (g n c : Nat) (t : TypeId) (L : List Nat) (A : Option Addr) (m c2 : Nat) (z : Int) (p : Nat) (w : World) (hL : Digs Q L) (hn : L.length = n) (hnb : n ≤ 1099511627776) (hB : Blk w g t (u64s L).toArray) (hW : Wh w A m c2 z)
    (hA : ∀ b o, 0 < m → A = some ⟨b, o, none⟩ → b ≠ g) (hp : p ≤ 70368744177664) (hT : ofd Q L + 2 ^ p * z.natAbs < Q ^ n) (hnc : n ≤ c) :
    Calls Tryz.prog 119 #[.slice (some ⟨g, 0, none⟩) n c, .slice A m c2, .int .i64 (p : Int)] w fun e w' => e = .returned (.tuple #[]) ∧ Added g n t (ofd Q L + 2 ^ p * z.natAbs) w w' := by
  obtain ⟨hm, hmc, hr⟩ := hW
  have hroom : ∀ k, k < m → p / 64 + k < n := fun k hk => add_room (z := z) (by unfold wl at hm; omega) (by omega)
  have hq1 : (p : Int) / 64 = ((p / 64 : Nat) : Int) := by omega
  have hq2 : (p : Int) % 64 = ((p % 64 : Nat) : Int) := by omega
  have hs : p % 64 < 64 := Nat.mod_lt _ (by omega)
  have hqb : p / 64 ≤ 1099511627776 := by omega
  have hmb : m ≤ 1099511627776 := by
    rcases Nat.eq_zero_or_pos m with h0 | h0
    · omega
    · have := hroom (m - 1) (by omega); omega
  have hst := Add1.start (L := L) (D := dig z) (p := p) hL
  have HST := Lib.hid hst
  have HR := Lib.hid hr
  have HM := Lib.hid hm
  have HN := Lib.hid hn
  have HRoom := Lib.hid hroom
  have HA := Lib.hid hA
  have HT := Lib.hid hT
  have HB := Lib.hid hB
  have ho := Add1.step L (dig z) p
  generalize hq : p / 64 = q at *
  generalize hs2 : p % 64 = s at *
  have HO := Lib.hid ho
  have HQ := Lib.hid hq
  have HS2 := Lib.hid hs2
  clear hst hr hm hn hroom hA hT hB hq hs2 hL ho
  go_enter Tryz.func119, Tryz.ntmps119
  go_wp2_with fail
  rw [hq2]
  go_loopw [6, 8, 9, 19] (fun a cc b i wr => ∃ (k C Bd : Nat) (M : List Nat), k ≤ m ∧ a = .int .i64 ((q : Int) + (k : Int)) ∧ cc = .int .u64 C ∧ b = .int .u64 Bd ∧ i = .int .i64 k ∧ Add1 L (dig z) p k M C Bd ∧ Blk wr g t (u64s M).toArray ∧ Only g w wr) (fun _ _ _ i _ => m - (intOf i).toNat)
  case atStart => exact ⟨0, 0, 0, L, Nat.zero_le _, by simp, rfl, rfl, rfl, HST.out, HB.out, Only.refl _ _⟩
  case round =>
    obtain ⟨k, C, Bd, M, hk, rfl, rfl, rfl, rfl, hadd, hBM, hO⟩ := hrel
    by_cases hlt : k < m
    · have hlen : M.length = n := hadd.2.1.trans HN.out
      have hC : C ≤ 1 := hadd.2.2.1
      have hBd : Bd < 2 ^ (p % 64) := hadd.2.2.2.1
      rw [HS2.out] at hBd
      have hkd : k < (dig z).length := by have := HM.out; unfold wl at this; omega
      have hrm : q + k < n := HRoom.out k hlt
      have hi : q + k < M.length := by omega
      obtain ⟨b, o, hAe, hbl, hcell0⟩ := HR.out.at_ (u64s_get (dig z) k hkd)
      subst hAe
      have hne : b ≠ g := HA.out b o (by omega) rfl
      have hcell := hO.cell hne hcell0
      have hget := hBM.cell (q + k)
      rw [u64s_arr M _ hi] at hget
      have hfr := hBM.frozen (q + k)
      have hd := dig_lt z |>.get k hkd
      have hx := (hadd.1).get (q + k) hi
      have hstep := HO.out _ _ _ _ _ _ hadd hkd rfl hd hi rfl
      generalize (dig z)[k] = d at *
      generalize hMx : M[q + k] = x at *
      have ho := or_word (d := d) hs hBd
      obtain ⟨r1, r2⟩ := shl_room (d := d) hs hBd
      generalize d * 2 ^ s % Q + Bd = y at *
      have hrun := fun W => run_add x y C hC W
      have hbeh := @win_cast d (64 - s)
      generalize hv : (x + y + C) % Q = v at *
      generalize hC' : (x + y + C) / Q = C' at *
      generalize d / 2 ^ (64 - s) = Bd' at *
      have hset := hBM.set_ (q + k) (.int .u64 (v : Int))
      rw [u64s_set] at hset
      have HSet := Lib.hid hset
      have HStep := Lib.hid hstep
      have HOn := Lib.hid hO
      have e1 : ((q : Int) + (k : Int)).toNat = q + k := by omega
      have e2 : (0 : Int) ≤ (q : Int) + (k : Int) := by omega
      have e3 : (q : Int) + (k : Int) < (n : Int) := by omega
      have e4 : (k : Int) < (m : Int) := by omega
      have e5 : (s : Int) < 64 := by omega
      clear hset hstep hO hadd hBd hkd hi hcell0 hd hx hMx r1 r2 hC hv hC' hBM hlen hrm
      go_wp2_with fail
      go_region_with (fail)
      go_wp2_with fail
      go_roundw
      case rel => exact ⟨k + 1, C', Bd', M.set (q + k) v, by omega, by go_num, rfl, rfl, by go_num, HStep.out, HSet.out, (HOn.out.set_ _ _).drew⟩
      case measure => simp [intOf]; omega
    · obtain rfl : k = m := by omega
      have hkm : k = (dig z).length := by have := HM.out; unfold wl at this; exact this
      have h2 : Add2 n (ofd Q L + 2 ^ p * z.natAbs) (q + k) M C Bd := by
        have := Add2.start (L := L) (D := dig z) (p := p) (by rw [← hkm]; exact hadd) HN.out
        rw [HQ.out, ← hkm, ofd_dig] at this
        exact this
      have H2 := Lib.hid h2
      have HBM := Lib.hid hBM
      have HOn := Lib.hid hO
      generalize hTT : ofd Q L + 2 ^ p * z.natAbs = T at *
      have HTT := Lib.hid hTT
      clear hTT
      have e4 : ¬ (k : Int) < (k : Int) := by omega
      clear hadd h2 hBM hO hkm
      go_wp2_with fail
      go_loopw [6, 8, 12] (fun a cc r wr => ∃ (i C R : Nat) (M : List Nat), a = .int .i64 (i : Int) ∧ cc = .int .u64 C ∧ r = .int .u64 R ∧ Add2 n T i M C R ∧ Blk wr g t (u64s M).toArray ∧ Only g w wr) (fun a _ _ _ => n - (intOf a).toNat)
      case atStart => exact ⟨q + k, C, Bd, M, by simp, rfl, rfl, H2.out, HBM.out, HOn.out⟩
      case round =>
        obtain ⟨i, C, R, M, rfl, rfl, rfl, hadd, hBM, hO⟩ := hrel
        by_cases hz : C + R = 0
        · obtain ⟨rfl, rfl⟩ : C = 0 ∧ R = 0 := by omega
          have hd := Lib.hid hadd.done
          have HBM := Lib.hid hBM
          have HOn := Lib.hid hO
          clear hadd hBM hO hz
          go_wp2_with fail
          go_end0
          exact ⟨rfl, M, hd.out.1, hd.out.2.1, by rw [hd.out.2.2, HTT.out], HBM.out, HOn.out⟩
        · have hi := hadd.room HT.out hz
          have hlen : M.length = n := hadd.2.1
          have hC : C ≤ 1 := hadd.2.2.1
          have hRq : R < Q := hadd.2.2.2.1
          have hstep := hadd.step (by omega) rfl
          have hget := hBM.cell i
          rw [u64s_arr M _ (by omega)] at hget
          have hfr := hBM.frozen i
          generalize hMx : M[i] = x at *
          have hrun := fun W => run_add x R C hC W
          generalize hv : (x + R + C) % Q = v at *
          generalize hC' : (x + R + C) / Q = C' at *
          have hset := hBM.set_ i (.int .u64 (v : Int))
          rw [u64s_set] at hset
          have HSet := Lib.hid hset
          have HStep := Lib.hid hstep
          have HOn := Lib.hid hO
          have e2 : (i : Int) < (n : Int) := by omega
          by_cases hR : R = 0
          · subst hR
            have t2 : ((C : Int) != 0) = true := by simp; omega
            have e0 : ((0 : Nat) : Int) = 0 := rfl
            rw [e0] at hrun ⊢
            clear hset hstep hO hadd hBM hMx hv hC' hC hz hRq hlen
            go_wp2_with fail
            go_roundw
            case rel => exact ⟨i + 1, C', 0, M.set i v, by go_num, rfl, rfl, HStep.out, HSet.out, (HOn.out.set_ _ _)⟩
            case measure => simp [intOf]; omega
          · have t1 : ((R : Int) != 0) = true := by simp; omega
            clear hset hstep hO hadd hBM hMx hv hC' hC hz hRq hlen hR
            go_wp2_with fail
            go_roundw
            case rel => exact ⟨i + 1, C', 0, M.set i v, by go_num, rfl, rfl, HStep.out, HSet.out, (HOn.out.set_ _ _)⟩
            case measure => simp [intOf]; omega
end Go.Proofs.YtdokpnfmmbkjfaaGreatDoor
/-
Whole numbers: difference. Conditions: as each says.
-/
set_option linter.unusedVariables false
namespace Go.Proofs.YtdokpnfmmbkjfaaGreatDoor
open Go.RowKit
attribute [local go_sem ↓] Go.wp_at_zero Go.wp_at_succ

theorem run_sub (x y b : Nat) (hb : b ≤ 1) (w : World) :
    (callFunc 150 #[.int .u64 x, .int .u64 y, .int .u64 b]).run Tryz.prog w =
      .ok (.value (.tuple #[.int .u64 (((x + Q - y - b) % Q : Nat) : Int), .int .u64 ((if x < y + b then 1 else 0 : Nat) : Int)])) w := by
  rw [run_callFunc_extern Tryz.func150 (by kernel_rfl) (by kernel_rfl) (by kernel_rfl) (e := sub64Entry) (by kernel_rfl), run_sub64 x y b hb]
  rfl
theorem compl_word {x : Nat} (hx : x < Q) : bits .xor .u64 IntKind.u64.max (x : Int) = ((Q - 1 - x : Nat) : Int) := by
  have hq := Q_val
  show IntKind.u64.wrap ((BitVec.ofInt 64 18446744073709551615 ^^^ BitVec.ofInt 64 (x : Int)).toNat : Int) = _
  have e1 : BitVec.ofInt 64 18446744073709551615 = BitVec.allOnes 64 := by decide
  have e2 : (BitVec.ofInt 64 (x : Int)).toNat = x := by
    rw [BitVec.ofInt_natCast, BitVec.toNat_ofNat]; exact Nat.mod_eq_of_lt (by omega)
  rw [e1, BitVec.allOnes_xor, BitVec.toNat_not, e2, IntKind.wrap_u64]
  omega

/-- What difference came to. -/
def Differ (g : Nat) (z : Int) (w : World) (e : Ending) (w' : World) : Prop := ∃ A n c, e = .returned (.agg #[.bool (ng z), .slice A n c]) ∧ Wh w' A n c z ∧ Only g w w'
theorem Differ.mk_ {g : Nat} {z : Int} {w w' : World} {a : Bool} {A : Option Addr} {n c : Nat} (ha : ng z = a) (h : Wh w' A n c z) (hb : Only g w w') : Differ g z w (.returned (.agg #[.bool a, .slice A n c])) w' := by
  subst ha; exact ⟨A, n, c, rfl, h, hb⟩
theorem Only.alloc {g : Nat} {w w' : World} (h : Only g w w') (o : Obj) : Only g w (w'.alloc o) :=
  ⟨h.os, h.tape, h.output, Nat.le_trans h.size (by simp), fun i hi hne => (Below.heap_alloc w' o i (Nat.lt_of_lt_of_le hi h.size)).trans (h.block i hi hne)⟩
theorem Only.new_ {g : Nat} {w w' : World} (h : Only g w w') (i : Nat) (u : Value) (k : Nat) (hk : w.heap.size ≤ k) : Only g w (w'.setCell ⟨k, i, none⟩ u) :=
  ⟨h.os, h.tape, h.output, by simpa [World.setCell] using h.size, fun j hj hne => (Below.heap_setCell w' _ u j (by simp; omega)).trans (h.block j hj hne)⟩

theorem row_blk {w : World} {g : Nat} {t : TypeId} {M : List Nat} (h : Blk w g t (u64s M).toArray) : Row w (some ⟨g, 0, none⟩) (u64s M) :=
  .inr ⟨g, 0, rfl, fun i v hi => by rw [Nat.zero_add, h.cell i]; simpa using hi⟩
set_option maxHeartbeats 1000000 in
theorem difference_any (g g2 n c c2 : Nat) (t t2 : TypeId) (L1 L2 : List Nat) (w : World) (h1 : Digs Q L1) (h2 : Digs Q L2) (hn1 : L1.length = n) (hn2 : L2.length = n) (hnb : n ≤ 1099511627776) (hc : n ≤ c) (hc2 : n ≤ c2)
    (hB1 : Blk w g t (u64s L1).toArray) (hB2 : Blk w g2 t2 (u64s L2).toArray) (hg : g2 ≠ g) :
    Calls Tryz.prog 120 #[.slice (some ⟨g, 0, none⟩) n c, .slice (some ⟨g2, 0, none⟩) n c2] w (Differ g (((ofd Q L1 : Nat) : Int) - (ofd Q L2 : Nat)) w) := by
  have hgl := hB1.lt
  have hgl2 := hB2.lt
  have HST := Lib.hid (Dif1.start (L2 := L2) h1)
  have HSP := Lib.hid (Dif1.step L1 L2)
  have HB1 := Lib.hid hB1
  have HB2 := Lib.hid hB2
  have HN1 := Lib.hid hn1
  have HN2 := Lib.hid hn2
  have H2 := Lib.hid h2
  clear hB1 hB2 hn1 hn2 h2 h1
  go_enter Tryz.func120, Tryz.ntmps120
  go_wp2_with fail
  go_loopw [5, 11] (fun bb i wr => ∃ (k b : Nat) (M : List Nat), k ≤ n ∧ bb = .int .u64 b ∧ i = .int .i64 k ∧ Dif1 L1 L2 k M b ∧ Blk wr g t (u64s M).toArray ∧ Blk wr g2 t2 (u64s L2).toArray ∧ Blk wr w.heap.size 35 #[.bool false, .slice none 0 0] ∧ Only g w wr) (fun _ i _ => n - (intOf i).toNat)
  case atStart => exact ⟨0, 0, L1, Nat.zero_le _, rfl, rfl, HST.out, HB1.out.alloc _, HB2.out.alloc _, Blk.new _ _ _, (Only.refl _ _).alloc _⟩
  case round =>
    obtain ⟨k, b, M, hk, rfl, rfl, hdif, hBM, hBL, hBr, hO⟩ := hrel
    by_cases hlt : k < n
    · have hlen : M.length = n := hdif.2.1.trans HN1.out
      have hb : b ≤ 1 := hdif.2.2.1
      have hi : k < M.length := by omega
      have hi2 : k < L2.length := by have := HN2.out; omega
      have hget := hBM.cell k
      rw [u64s_arr M _ hi] at hget
      have hget2 := hBL.cell k
      rw [u64s_arr L2 _ hi2] at hget2
      have hfr := hBM.frozen k
      have hx := (hdif.1).get k hi
      have hy := H2.out.get k hi2
      have hstep := HSP.out k M b _ _ hdif hi rfl hi2 rfl hy
      generalize M[k] = x at *
      generalize L2[k] = y at *
      have hrun := fun W => run_sub x y b hb W
      generalize (x + Q - y - b) % Q = v at *
      generalize (if x < y + b then 1 else 0) = b' at *
      have hset := hBM.set_ k (.int .u64 (v : Int))
      rw [u64s_set] at hset
      have hL' := hBL.other (p := ⟨g, k, none⟩) hg (.int .u64 (v : Int))
      have hr' := hBr.other (p := ⟨g, k, none⟩) (by show w.heap.size ≠ g; omega) (.int .u64 (v : Int))
      have HSet := Lib.hid hset
      have HL' := Lib.hid hL'
      have Hr' := Lib.hid hr'
      have HStep := Lib.hid hstep
      have HOn := Lib.hid (hO.set_ k (.int .u64 (v : Int)))
      have e4 : (k : Int) < (n : Int) := by omega
      clear hset hL' hr' hstep hO hdif hi hi2 hx hy hb hBM hlen hBL hBr
      go_wp2_with fail
      go_region_with (fail)
      all_goals
        go_wp2_with fail
        go_roundw
        case rel => exact ⟨k + 1, b', M.set k v, by omega, rfl, by go_num, HStep.out, HSet.out, HL'.out, Hr'.out, HOn.out.drew⟩
        case measure => simp [intOf]; omega
    · obtain rfl : k = n := by omega
      have e4 : ¬ (k : Int) < (k : Int) := by omega
      have hkn : k = L2.length := HN2.out.symm
      have hlen : M.length = k := hdif.2.1.trans HN1.out
      have hMd := hdif.1
      by_cases hb0 : b = 0
      · subst hb0
        have hv := dif_low (n := k) (by rw [← hkn]; exact hdif)
        have htr := fun W (hr : Row W (some ⟨g, 0, none⟩) (u64s M)) => trim_any g 0 k c M W hlen.symm hc (by omega) hMd hr
        have HV := Lib.hid hv
        have hr := row_blk hBM
        have HW := Lib.hid (Wh.trimmed (z := ((ofd Q L1 : Nat) : Int) - (ofd Q L2 : Nat)) hMd hr hv.1.symm)
        have HTr := Lib.hid (htr wr hr)
        have HBr := Lib.hid hBr
        have HOn := Lib.hid hO
        have hr0 := hBr.cell 0
        have hr1 := hBr.cell 1
        have hf0 := hBr.frozen 0
        have hf1 := hBr.frozen 1
        simp only [List.getElem?_toArray, List.getElem?_cons_zero, List.getElem?_cons_succ] at hr0 hr1
        have e0 : ((0 : Nat) : Int) = 0 := rfl
        rw [e0]
        generalize tl M = r at *
        clear hv htr hdif hBM hBL hBr hO hkn hMd e0 hr
        go_wp2_with fail
        refine HTr.out.mono ?_
        rintro e w1 ⟨rfl, rfl⟩
        go_wp2_with fail
        have hB2 := HBr.out.store2 (.bool false) (.slice (some ⟨g, 0, none⟩) r r)
        have h0 := hB2.cell 0
        have h1 := hB2.cell 1
        simp only [List.getElem?_toArray, List.getElem?_cons_zero, List.getElem?_cons_succ] at h0 h1
        refine bodyPost_ret (v := .agg #[.bool false, .slice (some ⟨g, 0, none⟩) r r]) (by simp [results, Tryz.results120, go_sem, h0, h1]) rfl
          (Differ.mk_ HV.out.2 (HW.out.store2 HBr.out _ _) ((HOn.out.new_ _ _ _ (Nat.le_refl _)).new_ _ _ _ (Nat.le_refl _)))
      · obtain rfl : b = 1 := by have := hdif.2.2.1; omega
        have HDif := Lib.hid hdif
        have HD2 := Lib.hid (Dif2.start hMd)
        have HSP2 := Lib.hid (Dif2.step M)
        have HBM := Lib.hid hBM
        have HBr := Lib.hid hBr
        have HOn := Lib.hid hO
        have e1 : ((1 : Nat) : Int) = 1 := rfl
        rw [e1]
        have HMl := Lib.hid hlen
        clear hdif hMd hBM hBr hO hb0 e1 hlen hBL hkn
        go_wp2_with fail
        go_loopw [7, 38] (fun cc i wr => ∃ (j C : Nat) (N : List Nat), j ≤ k ∧ cc = .int .u64 C ∧ i = .int .i64 j ∧ Dif2 M j N C ∧ Blk wr g t (u64s N).toArray ∧ Blk wr w.heap.size 35 #[.bool false, .slice none 0 0] ∧ Only g w wr) (fun _ i _ => k - (intOf i).toNat)
        case atStart => exact ⟨0, 1, M, Nat.zero_le _, rfl, rfl, HD2.out, HBM.out, HBr.out, HOn.out⟩
        case round =>
          obtain ⟨j, C, N, hj, rfl, rfl, hdif, hBM, hBr, hO⟩ := hrel
          by_cases hlt2 : j < k
          · have hlen : N.length = k := hdif.2.1.trans HMl.out
            have hC : C ≤ 1 := hdif.2.2.1
            have hi : j < N.length := by omega
            have hget := hBM.cell j
            rw [u64s_arr N _ hi] at hget
            have hfr := hBM.frozen j
            have hx := (hdif.1).get j hi
            have hstep := HSP2.out j N C _ hdif hi rfl
            generalize N[j] = x at *
            have hcp := compl_word hx
            have hsg : IntKind.u64.signed = false := rfl
            have hrun := fun W => run_add (Q - 1 - x) 0 C hC W
            generalize Q - 1 - x = y at *
            generalize (y + 0 + C) % Q = v at *
            generalize (y + 0 + C) / Q = C' at *
            have hset := hBM.set_ j (.int .u64 (v : Int))
            rw [u64s_set] at hset
            have hr' := hBr.other (p := ⟨g, j, none⟩) (by show w.heap.size ≠ g; omega) (.int .u64 (v : Int))
            have e0 : ((0 : Nat) : Int) = 0 := rfl
            rw [e0] at hrun
            have HSet := Lib.hid hset
            have Hr' := Lib.hid hr'
            have HStep := Lib.hid hstep
            have HOn := Lib.hid (hO.set_ j (.int .u64 (v : Int)))
            have e4 : (j : Int) < (k : Int) := by omega
            clear hset hr' hstep hO hdif hi hx hC hBM hlen hBr e0
            go_wp2_with fail
            go_roundw
            case rel => exact ⟨j + 1, C', N.set j v, by omega, rfl, by go_num, HStep.out, HSet.out, Hr'.out, HOn.out⟩
            case measure => simp [intOf]; omega
          · obtain rfl : j = k := by omega
            have e5 : ¬ (j : Int) < (j : Int) := by omega
            have hlen : N.length = j := hdif.2.1.trans HMl.out
            have hNd := hdif.1
            have hv := dif_high (L1 := L1) (L2 := L2) H2.out (by rw [HN1.out, HN2.out]) (by rw [HN2.out]; exact HDif.out) (by rw [HMl.out]; exact hdif)
            have htr := fun W (hr : Row W (some ⟨g, 0, none⟩) (u64s N)) => trim_any g 0 j c N W hlen.symm hc (by omega) hNd hr
            have HV := Lib.hid hv
            have hr := row_blk hBM
            have HW := Lib.hid (Wh.trimmed (z := ((ofd Q L1 : Nat) : Int) - (ofd Q L2 : Nat)) hNd hr hv.1.symm)
            have HTr := Lib.hid (htr wr hr)
            have HBr := Lib.hid hBr
            have HOn := Lib.hid hO
            have hr0 := hBr.cell 0
            have hr1 := hBr.cell 1
            have hf0 := hBr.frozen 0
            have hf1 := hBr.frozen 1
            simp only [List.getElem?_toArray, List.getElem?_cons_zero, List.getElem?_cons_succ] at hr0 hr1
            generalize tl N = r at *
            clear hv htr hdif hBM hBr hO hNd hr
            go_wp2_with fail
            refine HTr.out.mono ?_
            rintro e w1 ⟨rfl, rfl⟩
            go_wp2_with fail
            have hB2 := HBr.out.store2 (.bool true) (.slice (some ⟨g, 0, none⟩) r r)
            have h0 := hB2.cell 0
            have h1 := hB2.cell 1
            simp only [List.getElem?_toArray, List.getElem?_cons_zero, List.getElem?_cons_succ] at h0 h1
            refine bodyPost_ret (v := .agg #[.bool true, .slice (some ⟨g, 0, none⟩) r r]) (by simp [results, Tryz.results120, go_sem, h0, h1]) rfl
              (Differ.mk_ HV.out.2 (HW.out.store2 HBr.out _ _) ((HOn.out.new_ _ _ _ (Nat.le_refl _)).new_ _ _ _ (Nat.le_refl _)))

end Go.Proofs.YtdokpnfmmbkjfaaGreatDoor
