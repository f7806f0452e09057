/-
Whole numbers: sum. Conditions: as each says.
-/
import Derived.Test.YtbkbeglmfhaleaaGreatDoorDiff
import Derived.Deep.OwnRows
import Derived.Deep.DeepCutAuto
import Derived.IntWalk
set_option linter.unusedVariables false
namespace Go.Proofs.YtbkbeglmfhaleaaGreatDoor
open Go.RowKit
attribute [local go_sem ↓] Go.wp_at_zero Go.wp_at_succ

theorem made_zero (n : Nat) : madeCells #[.int .u64 0] n = (u64s (List.replicate n 0)).toArray := by
  refine Array.ext_getElem? fun i => ?_
  rw [List.getElem?_toArray]
  unfold madeCells u64s
  by_cases h : i < n
  · simp [h, Nat.mod_one]
  · simp [h]
theorem info_u64 : (Tryz.prog.info? 58).map (fun i => (i.zero, i.size, i.bytes)) = some (some (.int .u64 0), 1, 8) := by kernel_rfl
theorem run_make (n : Nat) (hn : n ≤ 1099511627776) (W : World) :
    (Instr.makeSlice 33 (.int .i64 (n : Int)) (.int .i64 (n : Int))).run Tryz.prog W = .ok (.slice (some ⟨W.heap.size, 0, none⟩) n n) (W.alloc (.cells (u64s (List.replicate n 0)).toArray 58)) := by
  rw [← made_zero]
  exact run_make_row' _ _ _ 8 Tryz.underlying33 info_u64 rfl _ _ n (by omega) (by omega) W

/-- The slice's elements are the whole numbers. -/
def Wholes (w : World) (b o : Nat) (zs : List Int) : Prop :=
  ∀ (i : Nat) (h : i < zs.length), ∃ A n c, w.cell? ⟨b, o + i * 2, none⟩ = some (.bool (ng zs[i])) ∧ w.cell? ⟨b, o + i * 2 + 1, none⟩ = some (.slice A n c) ∧ Wh w A n c zs[i]
theorem Wholes.below {w w' : World} {b o : Nat} {zs : List Int} (h : Wholes w b o zs) (hb : Below w.heap.size w w') : Wholes w' b o zs := fun i hi => by
  obtain ⟨A, n, c, h1, h2, h3⟩ := h i hi
  exact ⟨A, n, c, cell_below h1 hb, cell_below h2 hb, h3.below hb⟩
/-- The slice's numbers. -/
def Pows (w : World) (b o : Nat) (ps : List Nat) : Prop := ∀ (i : Nat) (h : i < ps.length), w.cell? ⟨b, o + i, none⟩ = some (.int .i64 (ps[i] : Int))
theorem Pows.below {w w' : World} {b o : Nat} {ps : List Nat} (h : Pows w b o ps) (hb : Below w.heap.size w w') : Pows w' b o ps := fun i hi => cell_below (h i hi) hb
/-- How many binary digits the first k numbers reach to. -/
def reach (zs : List Int) (ps : List Nat) : Nat → Nat
  | 0 => 0
  | k + 1 => max (reach zs ps k) (ps.getD k 0 + bl (zs.getD k 0).natAbs)

theorem bl_wl (z : Int) (k : Nat) (h : wl z ≤ k) : bl z.natAbs ≤ 64 * k := by
  have h1 := (wl_le z k).1 h
  by_cases h0 : z.natAbs = 0
  · rw [h0]; simp [bl]
  · obtain ⟨b1, b2⟩ := bl_bounds h0
    have h2 : 2 ^ (bl z.natAbs - 1) < 2 ^ (64 * k) := by
      rw [Nat.pow_mul]; exact Nat.lt_of_le_of_lt b1 h1
    have := (Nat.pow_lt_pow_iff_right (by omega)).1 h2
    omega
theorem reach_succ {zs : List Int} {ps : List Nat} {k : Nat} (h1 : k < zs.length) (h2 : k < ps.length) : reach zs ps (k + 1) = max (reach zs ps k) (ps[k] + bl zs[k].natAbs) := by
  show max _ _ = _
  rw [List.getD_eq_getElem?_getD, List.getD_eq_getElem?_getD, List.getElem?_eq_getElem h1, List.getElem?_eq_getElem h2]
  rfl
/-- The sizes of the numbers that are below 0 (s), or aren't, each at its place. -/
def acc (s : Bool) (zs : List Int) (ps : List Nat) : Nat → Nat
  | 0 => 0
  | k + 1 => acc s zs ps k + if ng (zs.getD k 0) = s then 2 ^ ps.getD k 0 * (zs.getD k 0).natAbs else 0
/-- The sum of the first k numbers, each at its place. -/
def tot (zs : List Int) (ps : List Nat) : Nat → Int
  | 0 => 0
  | k + 1 => tot zs ps k + zs.getD k 0 * 2 ^ ps.getD k 0
theorem tot_acc (zs : List Int) (ps : List Nat) (k : Nat) : tot zs ps k = ((acc false zs ps k : Nat) : Int) - (acc true zs ps k : Nat) := by
  induction k with
  | zero => rfl
  | succ k ih =>
    simp only [tot, acc, ih]
    generalize zs.getD k 0 = z
    generalize ps.getD k 0 = p
    have hc : ((2 ^ p : Nat) : Int) = 2 ^ p := by simp
    by_cases h : z < 0
    · have h1 : ng z = true := by simp [ng, h]
      rw [h1, if_neg (by decide), if_pos rfl, Int.natCast_add, Int.natCast_add, Int.natCast_mul, hc, show ((z.natAbs : Nat) : Int) = -z by omega, Int.mul_neg, Int.mul_comm z]
      simp; omega
    · have h1 : ng z = false := by simp [ng, h]
      rw [h1, if_pos rfl, if_neg (by decide), Int.natCast_add, Int.natCast_add, Int.natCast_mul, hc, show ((z.natAbs : Nat) : Int) = z by omega, Int.mul_comm z]
      simp; omega
theorem reach_le (zs : List Int) (ps : List Nat) (k : Nat) : reach zs ps k ≤ reach zs ps (k + 1) := Nat.le_max_left _ _
theorem reach_mono (zs : List Int) (ps : List Nat) (k n : Nat) (h : k ≤ n) : reach zs ps k ≤ reach zs ps n := by
  induction n with
  | zero => obtain rfl : k = 0 := by omega
            exact Nat.le_refl _
  | succ n ih =>
    by_cases e : k = n + 1
    · subst e; exact Nat.le_refl _
    · exact Nat.le_trans (ih (by omega)) (reach_le _ _ _)
theorem acc_le (s : Bool) (zs : List Int) (ps : List Nat) (k : Nat) : acc s zs ps k ≤ k * 2 ^ reach zs ps k := by
  induction k with
  | zero => simp [acc]
  | succ k ih =>
    have h1 : 2 ^ reach zs ps k ≤ 2 ^ reach zs ps (k + 1) := Nat.pow_le_pow_right (by omega) (reach_le _ _ _)
    have h2 : 2 ^ ps.getD k 0 * (zs.getD k 0).natAbs ≤ 2 ^ reach zs ps (k + 1) := by
      by_cases h0 : (zs.getD k 0).natAbs = 0
      · rw [h0]; simp
      · obtain ⟨b1, b2⟩ := bl_bounds h0
        refine Nat.le_trans (Nat.mul_le_mul_left _ (Nat.le_of_lt b2)) ?_
        rw [← Nat.pow_add]
        exact Nat.pow_le_pow_right (by omega) (Nat.le_max_right _ _)
    have h3 := Nat.mul_le_mul_left k h1
    simp only [acc]
    rw [Nat.add_mul, Nat.one_mul]
    split <;> omega
theorem acc_lt (s : Bool) (zs : List Int) (ps : List Nat) (k n W : Nat) (hk : k ≤ n) (hn : n ≤ 1099511627776) (hW : reach zs ps n / 64 + 2 = W) : acc s zs ps k < Q ^ W := by
  have h1 := acc_le s zs ps k
  have h2 : 2 ^ reach zs ps k ≤ 2 ^ reach zs ps n := Nat.pow_le_pow_right (by omega) (reach_mono _ _ _ _ hk)
  have h3 : k * 2 ^ reach zs ps k ≤ 2 ^ 40 * 2 ^ reach zs ps n := Nat.mul_le_mul (by omega) h2
  have h4 : 2 ^ 40 * 2 ^ reach zs ps n < Q ^ W := by
    rw [Q_pow, ← Nat.pow_mul, ← Nat.pow_add]
    exact Nat.pow_lt_pow_right (by omega) (by omega)
  omega
theorem acc_step (s : Bool) {zs : List Int} {ps : List Nat} {k : Nat} (h1 : k < zs.length) (h2 : k < ps.length) : acc s zs ps (k + 1) = acc s zs ps k + if ng zs[k] = s then 2 ^ ps[k] * zs[k].natAbs else 0 := by
  simp only [acc]
  rw [List.getD_eq_getElem?_getD, List.getD_eq_getElem?_getD, List.getElem?_eq_getElem h1, List.getElem?_eq_getElem h2]
  rfl
/-- The two lists that are summed up, when k numbers are in. -/
def Acc2 (zs : List Int) (ps : List Nat) (W k : Nat) (M1 M2 : List Nat) : Prop :=
  Digs Q M1 ∧ Digs Q M2 ∧ M1.length = W ∧ M2.length = W ∧ ofd Q M1 = acc false zs ps k ∧ ofd Q M2 = acc true zs ps k
theorem Acc2.start (zs : List Int) (ps : List Nat) (W : Nat) : Acc2 zs ps W 0 (List.replicate W 0) (List.replicate W 0) :=
  ⟨Digs.replicate (by unfold Q; omega) _, Digs.replicate (by unfold Q; omega) _, by simp, by simp, ofd_replicate _ _, ofd_replicate _ _⟩
theorem max_i64 (R p L : Nat) (h : p + L ≤ 26388279066624) : (if (R : Int) < IntKind.i64.wrap ((p : Int) + (L : Int)) then IntKind.i64.wrap ((p : Int) + (L : Int)) else (R : Int)) = ((max R (p + L) : Nat) : Int) := by
  have e : IntKind.i64.wrap ((p : Int) + (L : Int)) = (p : Int) + (L : Int) := IntWalk.i64_in _ (by omega)
  rw [e]; split <;> omega
set_option maxHeartbeats 1000000 in
theorem sum_any (b o c bp op cp n : Nat) (zs : List Int) (ps : List Nat) (w : World) (hn : zs.length = n) (hn2 : ps.length = n) (hnb : n ≤ 1099511627776) (hc : n ≤ c) (hcp : n ≤ cp) (hz : Wholes w b o zs) (hp : Pows w bp op ps)
    (hzb : ∀ z ∈ zs, wl z ≤ 137438953472) (hpb : ∀ p ∈ ps, p ≤ 17592186044416) (hn0 : 0 < n) :
    Calls Tryz.prog 85 #[.slice (some ⟨b, o, none⟩) n c, .slice (some ⟨bp, op, none⟩) n cp] w (RetW (tot zs ps n) w) := by
  have HZ := Lib.hid hz
  have HP := Lib.hid hp
  have HZB := Lib.hid hzb
  have HPB := Lib.hid hpb
  have HN := Lib.hid hn
  have HN2 := Lib.hid hn2
  clear hz hp hzb hpb hn hn2
  go_enter Tryz.func85, Tryz.ntmps85
  go_wp2_with fail
  go_loopw [5, 15] (fun r i wr => ∃ (k R : Nat), k ≤ n ∧ R ≤ 26388279066624 ∧ r = .int .i64 (R : Int) ∧ i = .int .i64 k ∧ Hid (R = reach zs ps k) ∧ Below (w.heap.size + 1) (w.alloc (.cells #[.bool false, .slice none 0 0] 35)) wr) (fun _ i _ => n - (intOf i).toNat)
  case atStart => exact ⟨0, 0, Nat.zero_le _, by omega, rfl, rfl, rfl, Below.refl _ _⟩
  case round =>
    obtain ⟨k, R, hk, hR, rfl, rfl, HRe, hbl⟩ := hrel
    by_cases hlt : k < n
    · have hb0 : Below w.heap.size w wr := ((Below.refl _ _).alloc (Nat.le_refl _) _).trans (hbl.mono (by omega))
      obtain ⟨A, m, c', hc1, hc2, hw⟩ := HZ.out k (by rw [HN.out]; exact hlt)
      have hc3 := cell_below hc1 hb0
      have hc4 := cell_below hc2 hb0
      have hpk := cell_below (HP.out k (by rw [HN2.out]; exact hlt)) hb0
      have hzk := HZB.out _ (List.getElem_mem (h := show k < zs.length by rw [HN.out]; exact hlt))
      have hpk2 := HPB.out _ (List.getElem_mem (h := show k < ps.length by rw [HN2.out]; exact hlt))
      have hk1 : k < zs.length := by rw [HN.out]; exact hlt
      have hk2 : k < ps.length := by rw [HN2.out]; exact hlt
      have hre := reach_succ hk1 hk2
      generalize zs[k] = z at *
      generalize ps[k] = p at *
      have HW := Lib.hid hw
      have HB := Lib.hid hbl
      have HB0 := Lib.hid hb0
      have hm : m ≤ 137438953472 := by rw [hw.1]; exact hzk
      have hblz := bl_wl z _ hzk
      have HL := Lib.hid hblz
      have HRe2 := Lib.hid hre
      have hc5 : (k : Int) < (n : Int) := by omega
      have hBk := Blk.new wr 35 #[.bool (ng z), .slice A m c']
      have HK := Lib.hid (show (wr.alloc (.cells #[.bool (ng z), .slice A m c'] 35)).drew.cell? ⟨bp, op + k, none⟩ = some (.int .i64 (p : Int)) ∧ (wr.alloc (.cells #[.bool (ng z), .slice A m c'] 35)).drew.cell? ⟨wr.heap.size, 0, none⟩ = some (.bool (ng z)) ∧ (wr.alloc (.cells #[.bool (ng z), .slice A m c'] 35)).drew.cell? ⟨wr.heap.size, 1, none⟩ = some (.slice A m c') from
        ⟨cell_below hpk (((Below.refl _ wr).alloc (Nat.le_refl _) _).drew), hBk.drew.cell 0, hBk.drew.cell 1⟩)
      clear hBk hw hbl hb0 hc1 hc2 hzk hre hk1 hk2
      go_wp2_with fail
      go_region_held3 (fun w' => w'.cell? ⟨bp, op + k, none⟩ = some (.int .i64 (p : Int)) ∧ w'.cell? ⟨wr.heap.size, 0, none⟩ = some (.bool (ng z)) ∧ w'.cell? ⟨wr.heap.size, 1, none⟩ = some (.slice A m c'))
        (first | exact ⟨cell_below HK.out.1 hb, cell_below HK.out.2.1 hb, cell_below HK.out.2.2 hb⟩ | go_keep)
        ((go_at_call 39; refine (width_any A m c' z _ (HW.out.below (HB0.out.trans (((Below.refl _ _).alloc HB0.out.size _).drew))) (by omega)).mono ?_; rintro e w1 ⟨rfl, hb⟩; obtain ⟨hc, hf⟩ := bcell hb; skip))
      rw [max_i64 R p _ (by have := HL.out; omega)]
      have HB1 := Lib.hid (HB.out.trans (((((Below.refl _ wr).alloc (Nat.le_refl _) _).drew).trans (hb.mono (by simp))).mono (by have := HB.out.size; simpa using this)))
      clear hb hc hf
      go_wp2_with fail
      go_roundw
      case rel => exact ⟨k + 1, max R (p + bl z.natAbs), by omega, by have := HL.out; omega, rfl, by go_num, by rw [HRe2.out, ← HRe.out]; exact rfl, HB1.out⟩
      case measure => simp [intOf]; omega
    · obtain rfl : k = n := by omega
      have hc5 : ¬ (k : Int) < (k : Int) := by omega
      obtain ⟨W, hW⟩ : ∃ W : Nat, R / 64 + 2 = W := ⟨_, rfl⟩
      have hW1 : (R : Int) / 64 + 2 = (W : Int) := by omega
      have hWb : W ≤ 1099511627776 := by omega
      have hmk := fun V => run_make W hWb V
      have hcut : W = reach zs ps k / 64 + 2 := by rw [← HRe.out]; exact hW.symm
      have HWr := Lib.hid hcut
      have HB := Lib.hid hbl
      have HBr := Lib.hid ((Blk.new w 35 #[.bool false, .slice none 0 0]).below hbl (by omega))
      clear hW hcut hbl HRe hR
      go_upto_region 8 with fail
      go_cut [9, 10] (fun a d wx => ∃ ga gb : Nat, a = .slice (some ⟨ga, 0, none⟩) W W ∧ d = .slice (some ⟨gb, 0, none⟩) W W ∧ ga ≠ gb ∧ w.heap.size < ga ∧ w.heap.size < gb ∧ Blk wx ga 58 (u64s (List.replicate W 0)).toArray ∧ Blk wx gb 58 (u64s (List.replicate W 0)).toArray ∧ Blk wx w.heap.size 35 #[.bool false, .slice none 0 0] ∧ Below (w.heap.size + 1) (w.alloc (.cells #[.bool false, .slice none 0 0] 35)) wx)
      case first =>
        have hsz := HB.out.size
        rw [World.size_alloc] at hsz
        have HL := Lib.hid hsz
        clear hsz
        go_region_with (fail)
        all_goals
          go_wp2_with fail
          go_meet
        · exact ⟨wr.heap.size, wr.heap.size + 1, rfl, rfl, by omega, by have := HL.out; omega, by have := HL.out; omega, ((Blk.new wr _ _).alloc _).drew, (Blk.new_ (wr.alloc _) _ _ _ (by simp)).drew, (((HBr.out).alloc _).alloc _).drew, ((HB.out.alloc HL.out _).alloc (by have := HL.out; simp; omega) _).drew⟩
        · exact ⟨wr.heap.size + 1, wr.heap.size, rfl, rfl, by omega, by have := HL.out; omega, by have := HL.out; omega, (Blk.new_ (wr.alloc _) _ _ _ (by simp)).drew, ((Blk.new wr _ _).alloc _).drew, (((HBr.out).alloc _).alloc _).drew, ((HB.out.alloc HL.out _).alloc (by have := HL.out; simp; omega) _).drew⟩
      case rest =>
        obtain ⟨ga, gb, rfl, rfl, hne, hga, hgb, hB1, hB2, hBr, hbw⟩ := hcut
        have HB1 := Lib.hid hB1
        have HB2 := Lib.hid hB2
        have HBr2 := Lib.hid hBr
        have HBw := Lib.hid hbw
        clear hB1 hB2 hBr hbw hmk HB HBr
        go_wp2_with fail
        go_loopw [39] (fun i wr => ∃ (j : Nat) (M1 M2 : List Nat), j ≤ k ∧ i = .int .i64 j ∧ Acc2 zs ps W j M1 M2 ∧ Blk wr ga 58 (u64s M1).toArray ∧ Blk wr gb 58 (u64s M2).toArray ∧ Blk wr w.heap.size 35 #[.bool false, .slice none 0 0] ∧ Below (w.heap.size + 1) (w.alloc (.cells #[.bool false, .slice none 0 0] 35)) wr) (fun i _ => k - (intOf i).toNat)
        case atStart => exact ⟨0, _, _, Nat.zero_le _, rfl, Acc2.start zs ps W, HB1.out, HB2.out, HBr2.out, HBw.out⟩
        case round =>
          obtain ⟨j, M1, M2, hj, rfl, hacc, hB1, hB2, hBr, hbw⟩ := hrel
          by_cases hlt2 : j < k
          · have hb0 : Below w.heap.size w wr := ((Below.refl _ _).alloc (Nat.le_refl _) _).trans (hbw.mono (by omega))
            have hj1 : j < zs.length := by rw [HN.out]; exact hlt2
            have hj2 : j < ps.length := by rw [HN2.out]; exact hlt2
            obtain ⟨A, m, c', hc1, hc2, hw⟩ := HZ.out j hj1
            have hc3 := cell_below hc1 hb0
            have hc4 := cell_below hc2 hb0
            have hpk0 := HP.out j hj2
            have hpk := cell_below hpk0 hb0
            have hbp := block_lt hpk0
            have hA : ∀ b o, 0 < m → A = some ⟨b, o, none⟩ → b < w.heap.size := fun b o hm e => by
              have hl : 0 < (dig zs[j]).length := by have := hw.1; unfold wl at this; omega
              obtain ⟨b', o', e', hlt, _⟩ := hw.2.2.at_ (u64s_get _ 0 hl)
              rw [e] at e'; injection e' with e'; injection e' with e1; omega
            have hpk2 := HPB.out _ (List.getElem_mem (h := hj2))
            have ha1 := acc_step false hj1 hj2
            have ha2 := acc_step true hj1 hj2
            have hl1 := acc_lt false zs ps (j + 1) k W (by omega) hnb HWr.out.symm
            have hl2 := acc_lt true zs ps (j + 1) k W (by omega) hnb HWr.out.symm
            obtain ⟨d1, d2, l1, l2, o1, o2⟩ := hacc
            generalize zs[j] = z at *
            generalize ps[j] = p at *
            have HW := Lib.hid hw
            have HB := Lib.hid hbw
            have HB0 := Lib.hid hb0
            have HA := Lib.hid hA
            have H1 := Lib.hid hB1
            have H2 := Lib.hid hB2
            have H3 := Lib.hid hBr
            have hc5 : (j : Int) < (k : Int) := by omega
            by_cases hng : ng z = true
            · skip
              have hgl : gb < wr.heap.size := H2.out.lt
              have hT : ofd Q M2 + 2 ^ p * z.natAbs < Q ^ W := by rw [o2]; rw [ha2, if_pos hng] at hl2; exact hl2
              have hsum : ofd Q M2 + 2 ^ p * z.natAbs = acc true zs ps (j + 1) := by rw [o2, ha2, if_pos hng]
              have hoth : ofd Q M1 = acc false zs ps (j + 1) := by rw [o1, ha1, if_neg (by rw [hng]; decide)]; rfl
              rw [hng] at hc3
              have hBk := Blk.new wr 35 #[.bool true, .slice A m c']
              have HK := Lib.hid (show (wr.alloc (.cells #[.bool true, .slice A m c'] 35)).drew.cell? ⟨bp, op + j, none⟩ = some (.int .i64 (p : Int)) ∧ (wr.alloc (.cells #[.bool true, .slice A m c'] 35)).drew.cell? ⟨wr.heap.size, 1, none⟩ = some (.slice A m c') from
                ⟨cell_below hpk (((Below.refl _ wr).alloc (Nat.le_refl _) _).drew), hBk.drew.cell 1⟩)
              have HT := Lib.hid hT
              have HS := Lib.hid hsum
              have HOt := Lib.hid hoth
              have HD1 := Lib.hid d1
              have HD2 := Lib.hid d2
              have HL1 := Lib.hid l1
              have HL2 := Lib.hid l2
              have HG := Lib.hid hng
              clear hT hsum hoth hBk hng hw hbw hb0 hA hB1 hB2 hBr ha1 ha2 hl1 hl2 o1 o2 d1 d2 l1 l2 hc1 hc2 hj1 hj2 hpk0
              go_wp2_with fail
              go_region_held3 (fun w' => w'.cell? ⟨bp, op + j, none⟩ = some (.int .i64 (p : Int)) ∧ w'.cell? ⟨wr.heap.size, 1, none⟩ = some (.slice A m c'))
                (first | exact ⟨hO.cell (by omega) HK.out.1, hO.cell (by omega) HK.out.2⟩ | go_keep)
                ((go_at_call 108; refine (add_any gb W W 58 M2 A m c' z p _ HD2.out HL2.out hWb (H2.out.alloc _).drew (HW.out.below (HB0.out.trans (((Below.refl _ _).alloc HB0.out.size _).drew))) (fun b o hm e => by have := HA.out b o hm e; omega) (by omega) HT.out (Nat.le_refl _)).mono ?_; rintro e w1 ⟨rfl, N, n1, n2, n3, n4, hO⟩; skip))
              have HN1 := Lib.hid n1
              have HN2' := Lib.hid n2
              have HN3 := Lib.hid n3
              have HN4 := Lib.hid n4
              have HO := Lib.hid hO
              clear n1 n2 n3 n4 hO
              go_wp2_with fail
              go_roundw
              case rel =>
                have hsz := HB.out.size
                rw [World.size_alloc] at hsz
                exact ⟨j + 1, M1, N, by omega, by go_num, ⟨HD1.out, HN1.out, HL1.out, HN2'.out, HOt.out, HN3.out.trans HS.out⟩,
                  HO.out.blk hne (H1.out.alloc _).drew, HN4.out, HO.out.blk (by omega) (H3.out.alloc _).drew, HO.out.below ((HB.out.alloc hsz _).drew) (by simp; omega) (by omega)⟩
              case measure => simp [intOf]; omega
            · have hng : ng z = false := by simpa using hng
              have hgl : ga < wr.heap.size := H1.out.lt
              have hT : ofd Q M1 + 2 ^ p * z.natAbs < Q ^ W := by rw [o1]; rw [ha1, if_pos hng] at hl1; exact hl1
              have hsum : ofd Q M1 + 2 ^ p * z.natAbs = acc false zs ps (j + 1) := by rw [o1, ha1, if_pos hng]
              have hoth : ofd Q M2 = acc true zs ps (j + 1) := by rw [o2, ha2, if_neg (by rw [hng]; decide)]; rfl
              rw [hng] at hc3
              have hBk := Blk.new wr 35 #[.bool false, .slice A m c']
              have HK := Lib.hid (show (wr.alloc (.cells #[.bool false, .slice A m c'] 35)).drew.cell? ⟨bp, op + j, none⟩ = some (.int .i64 (p : Int)) ∧ (wr.alloc (.cells #[.bool false, .slice A m c'] 35)).drew.cell? ⟨wr.heap.size, 1, none⟩ = some (.slice A m c') from
                ⟨cell_below hpk (((Below.refl _ wr).alloc (Nat.le_refl _) _).drew), hBk.drew.cell 1⟩)
              have HT := Lib.hid hT
              have HS := Lib.hid hsum
              have HOt := Lib.hid hoth
              have HD1 := Lib.hid d1
              have HD2 := Lib.hid d2
              have HL1 := Lib.hid l1
              have HL2 := Lib.hid l2
              have HG := Lib.hid hng
              clear hT hsum hoth hBk hng hw hbw hb0 hA hB1 hB2 hBr ha1 ha2 hl1 hl2 o1 o2 d1 d2 l1 l2 hc1 hc2 hj1 hj2 hpk0
              go_wp2_with fail
              go_region_held3 (fun w' => w'.cell? ⟨bp, op + j, none⟩ = some (.int .i64 (p : Int)) ∧ w'.cell? ⟨wr.heap.size, 1, none⟩ = some (.slice A m c'))
                (first | exact ⟨hO.cell (by omega) HK.out.1, hO.cell (by omega) HK.out.2⟩ | go_keep)
                ((go_at_call 108; refine (add_any ga W W 58 M1 A m c' z p _ HD1.out HL1.out hWb (H1.out.alloc _).drew (HW.out.below (HB0.out.trans (((Below.refl _ _).alloc HB0.out.size _).drew))) (fun b o hm e => by have := HA.out b o hm e; omega) (by omega) HT.out (Nat.le_refl _)).mono ?_; rintro e w1 ⟨rfl, N, n1, n2, n3, n4, hO⟩; skip))
              have HN1 := Lib.hid n1
              have HN2' := Lib.hid n2
              have HN3 := Lib.hid n3
              have HN4 := Lib.hid n4
              have HO := Lib.hid hO
              clear n1 n2 n3 n4 hO
              go_wp2_with fail
              go_roundw
              case rel =>
                have hsz := HB.out.size
                rw [World.size_alloc] at hsz
                exact ⟨j + 1, N, M2, by omega, by go_num, ⟨HN1.out, HD2.out, HN2'.out, HL2.out, HN3.out.trans HS.out, HOt.out⟩,
                  HN4.out, HO.out.blk hne.symm (H2.out.alloc _).drew, HO.out.blk (by omega) (H3.out.alloc _).drew, HO.out.below ((HB.out.alloc hsz _).drew) (by simp; omega) (by omega)⟩
              case measure => simp [intOf]; omega
          · obtain rfl : j = k := by omega
            have hc5 : ¬ (j : Int) < (j : Int) := by omega
            obtain ⟨d1, d2, l1, l2, o1, o2⟩ := hacc
            have hv : ((ofd Q M1 : Nat) : Int) - (ofd Q M2 : Nat) = tot zs ps j := by rw [o1, o2, tot_acc]
            have hgl := hB1.lt
            have hdf := difference_any ga gb W W W 58 58 M1 M2 wr d1 d2 l1 l2 hWb (Nat.le_refl _) (Nat.le_refl _) hB1 hB2 hne.symm
            rw [hv] at hdf
            have HDf := Lib.hid hdf
            have HB := Lib.hid hbw
            have HBr3 := Lib.hid hBr
            generalize tot zs ps j = T at *
            clear hdf hv o1 o2 d1 d2 l1 l2 hB1 hB2 hBr hbw
            go_wp2_with fail
            refine HDf.out.mono ?_
            rintro e w1 ⟨A, m, c', rfl, hW, hO⟩
            have hBr4 := hO.blk (b := w.heap.size) (by omega) HBr3.out
            have hr0 := hBr4.cell 0
            have hr1 := hBr4.cell 1
            have hf0 := hBr4.frozen 0
            have hf1 := hBr4.frozen 1
            simp only [List.getElem?_toArray, List.getElem?_cons_zero, List.getElem?_cons_succ] at hr0 hr1
            have HW := Lib.hid (hW.store2 hBr4 (.bool (ng T)) (.slice A m c'))
            have HB2 := Lib.hid (hBr4.store2 (.bool (ng T)) (.slice A m c'))
            have HBel := Lib.hid (show Below w.heap.size w w1 from by
              have hsz := HB.out.size
              rw [World.size_alloc] at hsz
              exact ((Below.refl _ _).alloc (Nat.le_refl _) _).trans ((hO.below HB.out hsz (by omega)).mono (by omega)))
            clear hW hO hBr4
            go_wp2_with fail
            have h0 := HB2.out.cell 0
            have h1 := HB2.out.cell 1
            simp only [List.getElem?_toArray, List.getElem?_cons_zero, List.getElem?_cons_succ] at h0 h1
            exact bodyPost_ret (v := .agg #[.bool (ng T), .slice A m c']) (by simp [results, Tryz.results85, go_sem, h0, h1]) rfl
              (RetW_def _ _ _ _ _ _ _ rfl HW.out ((HBel.out.setCell (Nat.le_refl _) _).setCell (Nat.le_refl _) _))
end Go.Proofs.YtbkbeglmfhaleaaGreatDoor
