/-
Whole numbers: difference. Conditions: as each says.
-/
import Derived.Test.YtbkbeglmfhaleaaGreatDoorDiffM
import Derived.Test.YtbkbeglmfhaleaaGreatDoorAdd
import Derived.Shelf.Spec.BitsCarry
set_option linter.unusedVariables false
namespace Go.Proofs.YtbkbeglmfhaleaaGreatDoor
open Go.RowKit
attribute [local go_sem ↓] Go.wp_at_zero Go.wp_at_succ

theorem run_sub (x y b : Nat) (hb : b ≤ 1) (w : World) :
    (callFunc 136 #[.int .u64 x, .int .u64 y, .int .u64 b]).run Tryz.prog w =
      .ok (.value (.tuple #[.int .u64 (((x + Q - y - b) % Q : Nat) : Int), .int .u64 ((if x < y + b then 1 else 0 : Nat) : Int)])) w := by
  rw [run_callFunc_extern Tryz.func136 (by kernel_rfl) (by kernel_rfl) (by kernel_rfl) (e := sub64Entry) (by kernel_rfl), run_sub64 x y b hb]
  rfl
theorem compl_word {x : Nat} (hx : x < Q) : bits .xor .u64 IntKind.u64.max (x : Int) = ((Q - 1 - x : Nat) : Int) := by
  have hq := Q_val
  show IntKind.u64.wrap ((BitVec.ofInt 64 18446744073709551615 ^^^ BitVec.ofInt 64 (x : Int)).toNat : Int) = _
  have e1 : BitVec.ofInt 64 18446744073709551615 = BitVec.allOnes 64 := by decide
  have e2 : (BitVec.ofInt 64 (x : Int)).toNat = x := by
    rw [BitVec.ofInt_natCast, BitVec.toNat_ofNat]; exact Nat.mod_eq_of_lt (by omega)
  rw [e1, BitVec.allOnes_xor, BitVec.toNat_not, e2, IntKind.wrap_u64]
  omega

/-- What difference came to. -/
def Differ (g : Nat) (z : Int) (w : World) (e : Ending) (w' : World) : Prop := ∃ A n c, e = .returned (.agg #[.bool (ng z), .slice A n c]) ∧ Wh w' A n c z ∧ Only g w w'
theorem Differ.mk_ {g : Nat} {z : Int} {w w' : World} {a : Bool} {A : Option Addr} {n c : Nat} (ha : ng z = a) (h : Wh w' A n c z) (hb : Only g w w') : Differ g z w (.returned (.agg #[.bool a, .slice A n c])) w' := by
  subst ha; exact ⟨A, n, c, rfl, h, hb⟩
theorem Only.alloc {g : Nat} {w w' : World} (h : Only g w w') (o : Obj) : Only g w (w'.alloc o) :=
  ⟨h.os, h.tape, h.output, Nat.le_trans h.size (by simp), fun i hi hne => (Below.heap_alloc w' o i (Nat.lt_of_lt_of_le hi h.size)).trans (h.block i hi hne)⟩
theorem Only.new_ {g : Nat} {w w' : World} (h : Only g w w') (i : Nat) (u : Value) (k : Nat) (hk : w.heap.size ≤ k) : Only g w (w'.setCell ⟨k, i, none⟩ u) :=
  ⟨h.os, h.tape, h.output, by simpa [World.setCell] using h.size, fun j hj hne => (Below.heap_setCell w' _ u j (by simp; omega)).trans (h.block j hj hne)⟩

theorem row_blk {w : World} {g : Nat} {t : TypeId} {M : List Nat} (h : Blk w g t (u64s M).toArray) : Row w (some ⟨g, 0, none⟩) (u64s M) :=
  .inr ⟨g, 0, rfl, fun i v hi => by rw [Nat.zero_add, h.cell i]; simpa using hi⟩
set_option maxHeartbeats 1000000 in
theorem difference_any (g g2 n c c2 : Nat) (t t2 : TypeId) (L1 L2 : List Nat) (w : World) (h1 : Digs Q L1) (h2 : Digs Q L2) (hn1 : L1.length = n) (hn2 : L2.length = n) (hnb : n ≤ 1099511627776) (hc : n ≤ c) (hc2 : n ≤ c2)
    (hB1 : Blk w g t (u64s L1).toArray) (hB2 : Blk w g2 t2 (u64s L2).toArray) (hg : g2 ≠ g) :
    Calls Tryz.prog 109 #[.slice (some ⟨g, 0, none⟩) n c, .slice (some ⟨g2, 0, none⟩) n c2] w (Differ g (((ofd Q L1 : Nat) : Int) - (ofd Q L2 : Nat)) w) := by
  have hgl := hB1.lt
  have hgl2 := hB2.lt
  have HST := Lib.hid (Dif1.start (L2 := L2) h1)
  have HSP := Lib.hid (Dif1.step L1 L2)
  have HB1 := Lib.hid hB1
  have HB2 := Lib.hid hB2
  have HN1 := Lib.hid hn1
  have HN2 := Lib.hid hn2
  have H2 := Lib.hid h2
  clear hB1 hB2 hn1 hn2 h2 h1
  go_enter Tryz.func109, Tryz.ntmps109
  go_wp2_with fail
  go_loopw [5, 11] (fun bb i wr => ∃ (k b : Nat) (M : List Nat), k ≤ n ∧ bb = .int .u64 b ∧ i = .int .i64 k ∧ Dif1 L1 L2 k M b ∧ Blk wr g t (u64s M).toArray ∧ Blk wr g2 t2 (u64s L2).toArray ∧ Blk wr w.heap.size 35 #[.bool false, .slice none 0 0] ∧ Only g w wr) (fun _ i _ => n - (intOf i).toNat)
  case atStart => exact ⟨0, 0, L1, Nat.zero_le _, rfl, rfl, HST.out, HB1.out.alloc _, HB2.out.alloc _, Blk.new _ _ _, (Only.refl _ _).alloc _⟩
  case round =>
    obtain ⟨k, b, M, hk, rfl, rfl, hdif, hBM, hBL, hBr, hO⟩ := hrel
    by_cases hlt : k < n
    · have hlen : M.length = n := hdif.2.1.trans HN1.out
      have hb : b ≤ 1 := hdif.2.2.1
      have hi : k < M.length := by omega
      have hi2 : k < L2.length := by have := HN2.out; omega
      have hget := hBM.cell k
      rw [u64s_arr M _ hi] at hget
      have hget2 := hBL.cell k
      rw [u64s_arr L2 _ hi2] at hget2
      have hfr := hBM.frozen k
      have hx := (hdif.1).get k hi
      have hy := H2.out.get k hi2
      have hstep := HSP.out k M b _ _ hdif hi rfl hi2 rfl hy
      generalize M[k] = x at *
      generalize L2[k] = y at *
      have hrun := fun W => run_sub x y b hb W
      generalize (x + Q - y - b) % Q = v at *
      generalize (if x < y + b then 1 else 0) = b' at *
      have hset := hBM.set_ k (.int .u64 (v : Int))
      rw [u64s_set] at hset
      have hL' := hBL.other (p := ⟨g, k, none⟩) hg (.int .u64 (v : Int))
      have hr' := hBr.other (p := ⟨g, k, none⟩) (by show w.heap.size ≠ g; omega) (.int .u64 (v : Int))
      have HSet := Lib.hid hset
      have HL' := Lib.hid hL'
      have Hr' := Lib.hid hr'
      have HStep := Lib.hid hstep
      have HOn := Lib.hid (hO.set_ k (.int .u64 (v : Int)))
      have e4 : (k : Int) < (n : Int) := by omega
      clear hset hL' hr' hstep hO hdif hi hi2 hx hy hb hBM hlen hBL hBr
      go_wp2_with fail
      go_region_with (fail)
      all_goals
        go_wp2_with fail
        go_roundw
        case rel => exact ⟨k + 1, b', M.set k v, by omega, rfl, by go_num, HStep.out, HSet.out, HL'.out, Hr'.out, HOn.out.drew⟩
        case measure => simp [intOf]; omega
    · obtain rfl : k = n := by omega
      have e4 : ¬ (k : Int) < (k : Int) := by omega
      have hkn : k = L2.length := HN2.out.symm
      have hlen : M.length = k := hdif.2.1.trans HN1.out
      have hMd := hdif.1
      by_cases hb0 : b = 0
      · subst hb0
        have hv := dif_low (n := k) (by rw [← hkn]; exact hdif)
        have htr := fun W (hr : Row W (some ⟨g, 0, none⟩) (u64s M)) => trim_any g 0 k c M W hlen.symm hc (by omega) hMd hr
        have HV := Lib.hid hv
        have hr := row_blk hBM
        have HW := Lib.hid (Wh.trimmed (z := ((ofd Q L1 : Nat) : Int) - (ofd Q L2 : Nat)) hMd hr hv.1.symm)
        have HTr := Lib.hid (htr wr hr)
        have HBr := Lib.hid hBr
        have HOn := Lib.hid hO
        have hr0 := hBr.cell 0
        have hr1 := hBr.cell 1
        have hf0 := hBr.frozen 0
        have hf1 := hBr.frozen 1
        simp only [List.getElem?_toArray, List.getElem?_cons_zero, List.getElem?_cons_succ] at hr0 hr1
        have e0 : ((0 : Nat) : Int) = 0 := rfl
        rw [e0]
        generalize tl M = r at *
        clear hv htr hdif hBM hBL hBr hO hkn hMd e0 hr
        go_wp2_with fail
        refine HTr.out.mono ?_
        rintro e w1 ⟨rfl, rfl⟩
        go_wp2_with fail
        have hB2 := HBr.out.store2 (.bool false) (.slice (some ⟨g, 0, none⟩) r r)
        have h0 := hB2.cell 0
        have h1 := hB2.cell 1
        simp only [List.getElem?_toArray, List.getElem?_cons_zero, List.getElem?_cons_succ] at h0 h1
        refine bodyPost_ret (v := .agg #[.bool false, .slice (some ⟨g, 0, none⟩) r r]) (by simp [results, Tryz.results109, go_sem, h0, h1]) rfl
          (Differ.mk_ HV.out.2 (HW.out.store2 HBr.out _ _) ((HOn.out.new_ _ _ _ (Nat.le_refl _)).new_ _ _ _ (Nat.le_refl _)))
      · obtain rfl : b = 1 := by have := hdif.2.2.1; omega
        have HDif := Lib.hid hdif
        have HD2 := Lib.hid (Dif2.start hMd)
        have HSP2 := Lib.hid (Dif2.step M)
        have HBM := Lib.hid hBM
        have HBr := Lib.hid hBr
        have HOn := Lib.hid hO
        have e1 : ((1 : Nat) : Int) = 1 := rfl
        rw [e1]
        have HMl := Lib.hid hlen
        clear hdif hMd hBM hBr hO hb0 e1 hlen hBL hkn
        go_wp2_with fail
        go_loopw [7, 38] (fun cc i wr => ∃ (j C : Nat) (N : List Nat), j ≤ k ∧ cc = .int .u64 C ∧ i = .int .i64 j ∧ Dif2 M j N C ∧ Blk wr g t (u64s N).toArray ∧ Blk wr w.heap.size 35 #[.bool false, .slice none 0 0] ∧ Only g w wr) (fun _ i _ => k - (intOf i).toNat)
        case atStart => exact ⟨0, 1, M, Nat.zero_le _, rfl, rfl, HD2.out, HBM.out, HBr.out, HOn.out⟩
        case round =>
          obtain ⟨j, C, N, hj, rfl, rfl, hdif, hBM, hBr, hO⟩ := hrel
          by_cases hlt2 : j < k
          · have hlen : N.length = k := hdif.2.1.trans HMl.out
            have hC : C ≤ 1 := hdif.2.2.1
            have hi : j < N.length := by omega
            have hget := hBM.cell j
            rw [u64s_arr N _ hi] at hget
            have hfr := hBM.frozen j
            have hx := (hdif.1).get j hi
            have hstep := HSP2.out j N C _ hdif hi rfl
            generalize N[j] = x at *
            have hcp := compl_word hx
            have hsg : IntKind.u64.signed = false := rfl
            have hrun := fun W => run_add (Q - 1 - x) 0 C hC W
            generalize Q - 1 - x = y at *
            generalize (y + 0 + C) % Q = v at *
            generalize (y + 0 + C) / Q = C' at *
            have hset := hBM.set_ j (.int .u64 (v : Int))
            rw [u64s_set] at hset
            have hr' := hBr.other (p := ⟨g, j, none⟩) (by show w.heap.size ≠ g; omega) (.int .u64 (v : Int))
            have e0 : ((0 : Nat) : Int) = 0 := rfl
            rw [e0] at hrun
            have HSet := Lib.hid hset
            have Hr' := Lib.hid hr'
            have HStep := Lib.hid hstep
            have HOn := Lib.hid (hO.set_ j (.int .u64 (v : Int)))
            have e4 : (j : Int) < (k : Int) := by omega
            clear hset hr' hstep hO hdif hi hx hC hBM hlen hBr e0
            go_wp2_with fail
            go_roundw
            case rel => exact ⟨j + 1, C', N.set j v, by omega, rfl, by go_num, HStep.out, HSet.out, Hr'.out, HOn.out⟩
            case measure => simp [intOf]; omega
          · obtain rfl : j = k := by omega
            have e5 : ¬ (j : Int) < (j : Int) := by omega
            have hlen : N.length = j := hdif.2.1.trans HMl.out
            have hNd := hdif.1
            have hv := dif_high (L1 := L1) (L2 := L2) H2.out (by rw [HN1.out, HN2.out]) (by rw [HN2.out]; exact HDif.out) (by rw [HMl.out]; exact hdif)
            have htr := fun W (hr : Row W (some ⟨g, 0, none⟩) (u64s N)) => trim_any g 0 j c N W hlen.symm hc (by omega) hNd hr
            have HV := Lib.hid hv
            have hr := row_blk hBM
            have HW := Lib.hid (Wh.trimmed (z := ((ofd Q L1 : Nat) : Int) - (ofd Q L2 : Nat)) hNd hr hv.1.symm)
            have HTr := Lib.hid (htr wr hr)
            have HBr := Lib.hid hBr
            have HOn := Lib.hid hO
            have hr0 := hBr.cell 0
            have hr1 := hBr.cell 1
            have hf0 := hBr.frozen 0
            have hf1 := hBr.frozen 1
            simp only [List.getElem?_toArray, List.getElem?_cons_zero, List.getElem?_cons_succ] at hr0 hr1
            generalize tl N = r at *
            clear hv htr hdif hBM hBr hO hNd hr
            go_wp2_with fail
            refine HTr.out.mono ?_
            rintro e w1 ⟨rfl, rfl⟩
            go_wp2_with fail
            have hB2 := HBr.out.store2 (.bool true) (.slice (some ⟨g, 0, none⟩) r r)
            have h0 := hB2.cell 0
            have h1 := hB2.cell 1
            simp only [List.getElem?_toArray, List.getElem?_cons_zero, List.getElem?_cons_succ] at h0 h1
            refine bodyPost_ret (v := .agg #[.bool true, .slice (some ⟨g, 0, none⟩) r r]) (by simp [results, Tryz.results109, go_sem, h0, h1]) rfl
              (Differ.mk_ HV.out.2 (HW.out.store2 HBr.out _ _) ((HOn.out.new_ _ _ _ (Nat.le_refl _)).new_ _ _ _ (Nat.le_refl _)))

end Go.Proofs.YtbkbeglmfhaleaaGreatDoor
