/-
strconv.FormatUint at base 10. Conditions: the number is below 2^64; the library's tables are as its text lays them.
-/
import Derived.Test.YtbkbeglmfhaleaaGreatDoorBld
import Derived.Test.YtbkbeglmfhaleaaGreatDoorShelf
import Derived.Laws.IdiomStrings
import Derived.LoopN
import Derived.Maps.AppendAt
set_option linter.unusedVariables false
namespace Go.Proofs.YtbkbeglmfhaleaaGreatDoor
open Go.RowKit Go.Sort Go.Lib

theorem below_mapBlock {w : World} {b : Nat} (f : Array Value → Array Value) (B : Nat) (hB : B ≤ b) : Below B w (mapBlock w b f) := by
  refine ⟨rfl, rfl, rfl, by simp [mapBlock], fun k hk => ?_⟩
  show (w.heap.modify b (onCells f))[k]? = _
  rw [Array.getElem?_modify, if_neg (by omega)]

/-- Twenty-four bytes that are 0. -/
def z24 : Array Value := #[.int .u8 0, .int .u8 0, .int .u8 0, .int .u8 0, .int .u8 0, .int .u8 0, .int .u8 0, .int .u8 0, .int .u8 0, .int .u8 0, .int .u8 0, .int .u8 0, .int .u8 0, .int .u8 0, .int .u8 0, .int .u8 0, .int .u8 0, .int .u8 0, .int .u8 0, .int .u8 0, .int .u8 0, .int .u8 0, .int .u8 0, .int .u8 0]
theorem z24_get (j : Fin 24) : z24[j.val]? = some (.int .u8 0) := by
  have e : z24 = Array.replicate 24 (.int .u8 0) := rfl
  rw [e, Array.getElem?_replicate, if_pos j.isLt]
theorem fmt10 (W : World) (g : Nat) (hg : W.heap.size = g) (t : TypeId) (u L : Nat) (hu : u < 18446744073709551616) (hL : Lib.nDigits u = L) (hL2 : L ≤ 24) :
    Calls Tryz.prog 119 #[.slice (some ⟨g, 0, none⟩) L 24, .int .u64 u] (W.alloc (.cells z24 t)) fun e w' =>
      e = .returned (.tuple #[]) ∧ Below g (W.alloc (.cells z24 t)) w' ∧ ∀ j, j < L → w'.cell? ⟨g, j, none⟩ = some (.int .u8 (((Lib.decDigits u).getD j 0).toNat : Int)) := by
  subst hg
  have hB := Blk.new W t z24
  have hH : Holds (fun (b : UInt8) => Value.int .u8 (b.toNat : Int)) (W.alloc (.cells z24 t)) W.heap.size 0 (Array.replicate L (0 : UInt8)) := by
    intro j hj
    rw [Array.size_replicate] at hj
    refine ⟨?_, hB.frozen _⟩
    rw [Nat.zero_add, hB.cell j, z24_get ⟨j, by omega⟩]
    rw [getElem!_pos _ j (by simpa using hj), Array.getElem_replicate]
    rfl
  have hf := Tryz.internal_strconv_formatBase10 W.heap.size 0 24 u (Array.replicate L 0) _ hH (by rw [Array.size_replicate, ← hL]; exact Lib.lt_pow_nDigits u) hu (by rw [Array.size_replicate]; omega)
  rw [Array.size_replicate] at hf
  refine hf.mono ?_
  rintro e w' ⟨rfl, n, v', dk, rfl, hinv⟩
  refine ⟨rfl, below_drewN (below_mapBlock _ _ (Nat.le_refl _)) _, fun j hj => ?_⟩
  have hc := cell?_putRow (fun (b : UInt8) => Value.int .u8 (b.toNat : Int)) (W.alloc (.cells z24 t)) W.heap.size 0 (Array.replicate L (0 : UInt8)) dk hH (by rw [hinv.size, Array.size_replicate]) j (by rw [hinv.size]; exact hj)
  rw [Nat.zero_add] at hc
  show (putRow (fun (b : UInt8) => Value.int .u8 (b.toNat : Int)) (W.alloc (.cells z24 t)) W.heap.size 0 dk).cell? ⟨W.heap.size, j, none⟩ = _
  rw [hc, hinv.done j (by omega) hj, Lib.decDigits_eq, hL]
  congr 3
  simp [List.getD, hj]

set_option maxHeartbeats 1000000 in
set_option maxRecDepth 100000 in
theorem fmtU_any (u : Nat) (w : World) (hu : u < 18446744073709551616) (hg : Glob w) :
    Calls Tryz.prog 97 #[.int .u64 u, .int .i64 10] w fun e w' => e = .returned (.string ⟨(Lib.decDigits u).toArray⟩) ∧ Below w.heap.size w w' := by
  have HG := Lib.hid hg
  clear hg
  by_cases h : u < 100
  · have hd : decide (u < 100) = true := by simp [h]
    go_enter Tryz.func97, Tryz.ntmps97
    go_wp2_with fail
    refine (Tryz.internal_strconv_small u h _).mono ?_
    rintro e w1 ⟨rfl, rfl⟩
    go_wp2_with fail
    go_ret
    exact ⟨rfl, Below.refl _ _⟩
  · have h1 : 1 ≤ u := by omega
    have hn : 1 ≤ Lib.nDigits u := Lib.nDigits_pos u
    have hn2 : Lib.nDigits u ≤ 20 := by
      obtain ⟨e1, e2⟩ := Lib.numDigits_eq u h1 hu
      rw [← e1]; split <;> omega
    have hlt := Lib.lt_pow_nDigits u
    have hdd := Lib.decDigits_eq u
    generalize hL : Lib.nDigits u = L at *
    have HL := Lib.hid hL
    have HLt := Lib.hid hlt
    have HD := Lib.hid hdd
    clear hL hlt hdd
    have ht : decide (u < 100) = false := by simp [h]
    have hb1 : (L : Int) ≤ 24 := by omega
    have hb2 : L ≤ 24 := by omega
    have hb3 : ((L : Int)).toNat = L := by omega
    go_enter Tryz.func97, Tryz.ntmps97
    go_wp2_with fail
    refine (Tryz.internal_strconv_numDigits u h1 hu _ (HG.out.below ((Below.refl _ _).alloc (Nat.le_refl _) _)).tab).mono ?_
    rintro e w1 ⟨rfl, rfl⟩
    rw [HL.out]
    go_wp2_with fail
    refine (fmt10 w w.heap.size rfl 143 u L hu HL.out hb2).mono ?_
    rintro e w1 ⟨rfl, hbl, hcells⟩
    have hlen : (Lib.decDigits u).length = L := by rw [Lib.decDigits_length, HL.out]
    have hcv := run_convert_bytes_back (P := Tryz.prog) w1 65 9 5 ⟨w.heap.size, 0, none⟩ 24 (Lib.decDigits u) Tryz.underlying65 Tryz.underlying5 Tryz.underlying9 (by
        intro j hj
        rw [hlen] at hj
        have := hcells j hj
        have ha : (⟨w.heap.size, 0, none⟩ : Addr).add j = ⟨w.heap.size, j, none⟩ := by
          unfold Addr.add; split
          · rename_i h; subst h; rfl
          · simp
        rw [ha, this]
        simp [List.getD, hlen, hj])
    rw [hlen] at hcv
    have HBl := Lib.hid hbl
    clear hbl hcells hlen
    go_wp2_with fail
    go_ret
    exact ⟨rfl, ((RowKit.Below.refl _ _).alloc (Nat.le_refl _) _).trans HBl.out⟩
theorem fmt_any (u : Nat) (w : World) (hu : u < 18446744073709551616) (hg : Glob w) :
    Calls Tryz.prog 75 #[.int .u64 u, .int .i64 10] w fun e w' => e = .returned (.string ⟨(Lib.decDigits u).toArray⟩) ∧ RowKit.Below w.heap.size w w' := by
  have HG := Lib.hid hg
  clear hg
  go_enter Tryz.func75, Tryz.ntmps75
  go_wp2_with fail
  refine (fmtU_any u _ hu HG.out).mono ?_
  rintro e w1 ⟨rfl, hb⟩
  go_wp2_with fail
  go_ret
  exact ⟨rfl, hb⟩
end Go.Proofs.YtbkbeglmfhaleaaGreatDoor
/-
math/bits.Div64 where the high word is 0. Conditions: the divisor isn't 0.
-/
set_option linter.unusedVariables false
namespace Go.Proofs.YtbkbeglmfhaleaaGreatDoor
open Go.RowKit

set_option maxHeartbeats 1000000 in
set_option maxRecDepth 100000 in
theorem div_any (x : Nat) (w : World) (hx : x < 10000000000000000000) :
    Calls Tryz.prog 74 #[.int .u64 0, .int .u64 x, .int .u64 10000000000000000000] w fun e w' => e = .returned (.tuple #[.int .u64 0, .int .u64 x]) ∧ Below w.heap.size w w' := by
  have h1 : (x : Int) / 10000000000000000000 = 0 := Int.ediv_eq_zero_of_lt (by omega) (by omega)
  have h2 : (x : Int) % 10000000000000000000 = (x : Int) := Int.emod_eq_of_lt (by omega) (by omega)
  have H2 := Lib.hid h2
  clear h2
  go_enter Tryz.func74, Tryz.ntmps74
  go_wp2_with fail
  go_quiet (fail)
  rw [H2.out]
  clear h1 H2
  go_wp2_with fail
  go_ret2
  exact ⟨rfl, below_drewN (Below.refl _ _) _⟩
end Go.Proofs.YtbkbeglmfhaleaaGreatDoor
/-
A whole number of one word in decimal digits: text. Conditions: the number is within 10^19; the library's tables are as its text lays them.
-/
set_option linter.unusedVariables false
namespace Go.Proofs.YtbkbeglmfhaleaaGreatDoor
open Go.RowKit
attribute [local go_sem ↓] Go.wp_at_zero Go.wp_at_succ

theorem info_str : (Tryz.prog.info? 9).map (fun i => (i.zero, i.size, i.bytes)) = some (some (.string ⟨#[]⟩), 1, 16) := by kernel_rfl
theorem size_u64 : ∀ w, (Go.sizeOf 58).run Tryz.prog w = .ok 1 w := fun w => Tryz.sizeOf58 w
/-- A copy of one word. -/
theorem clone_one (b o : Nat) (c x : Nat) (w : World) (hc : w.cell? ⟨b, o, none⟩ = some (.int .u64 (x : Int))) :
    Calls Tryz.prog 72 #[.slice (some ⟨b, o, none⟩) 1 c] w fun e w' =>
      ∃ g cap rest, e = .returned (.slice (some ⟨g, 0, none⟩) 1 cap) ∧ Blk w' g 58 (.int .u64 (x : Int) :: rest).toArray ∧ w.heap.size ≤ g ∧ 1 ≤ cap ∧ cap ≤ 9223372036854775807 ∧ Below w.heap.size w w' := by
  obtain ⟨i0, hi, hz0, hz1, hz2⟩ := info_parts info_u64
  refine (Tryz.slices_Clone i0 _ 1 8 hi hz0 hz1 hz2 rfl (by omega) size_u64 b o 1 c [.int .u64 (x : Int)] w rfl (by unfold maxLen; omega) (by omega) (by
    intro j u hj
    match j, hj with
    | 0, hj => simp at hj; subst hj; simpa using hc) (by intro u hu; simp at hu; subst hu; rfl)).mono ?_
  rintro e w' ⟨v', rfl, hown, hne, hb⟩
  rcases hown.2 with ⟨h0, _⟩ | ⟨g, cap, cur, rfl, hg, hh, hnc, hcm, hcs, htake⟩
  · exact absurd h0 hne
  · have hl : 1 ≤ cur.toList.length := by simp; omega
    obtain ⟨rest, hr⟩ : ∃ rest, cur.toList = .int .u64 (x : Int) :: rest := by
      cases hcl : cur.toList with
      | nil => rw [hcl] at hl; simp at hl
      | cons a l =>
        rw [hcl] at htake
        simp at htake
        exact ⟨l, by rw [htake]⟩
    refine ⟨g, cap, rest, rfl, ?_, hg, hnc, hcm, hb⟩
    unfold Blk
    rw [← hr]
    exact hh
end Go.Proofs.YtbkbeglmfhaleaaGreatDoor
/-
A whole number of one word in decimal digits: text. Conditions: the number is within 10^19; the library's tables are as its text lays them.
-/
set_option linter.unusedVariables false
namespace Go.Proofs.YtbkbeglmfhaleaaGreatDoor
open Go.RowKit
attribute [local go_sem ↓] Go.wp_at_zero Go.wp_at_succ

theorem nd_le : ∀ (k u : Nat), u < 10 ^ (k + 1) → Lib.nDigits u ≤ k + 1
  | 0, u, h => by rw [Lib.nDigits_small (by simpa using h)]; omega
  | k + 1, u, h => by
    by_cases h10 : u < 10
    · rw [Lib.nDigits_small h10]; omega
    · rw [Lib.nDigits_big h10]
      have := nd_le k (u / 10) (by rw [Nat.pow_succ] at h; omega)
      omega
theorem nd_ge (u : Nat) (h : u ≠ 0) : 10 ^ (Lib.nDigits u - 1) ≤ u := by
  induction u using Nat.strongRecOn with
  | ind u ih =>
    by_cases h10 : u < 10
    · rw [Lib.nDigits_small h10]; simp; omega
    · rw [Lib.nDigits_big h10]
      have h1 := ih (u / 10) (by omega) (by omega)
      have h2 := Lib.nDigits_pos (u / 10)
      rw [show Lib.nDigits (u / 10) + 1 - 1 = (Lib.nDigits (u / 10) - 1) + 1 by omega, Nat.pow_succ]
      omega
/-- The digits don't begin with a nought. -/
theorem digits_head (u : Nat) (h : u ≠ 0) : (Lib.decDigits u).head? ≠ some 48 := by
  have hp := Lib.nDigits_pos u
  have h1 := nd_ge u h
  have h2 := Lib.lt_pow_nDigits u
  rw [Lib.decDigits_eq]
  obtain ⟨k, hk⟩ : ∃ k, Lib.nDigits u = k + 1 := ⟨Lib.nDigits u - 1, by omega⟩
  rw [hk] at h1 h2 ⊢
  rw [List.range_succ_eq_map, List.map_cons, List.head?_cons]
  intro e
  injection e with e
  unfold Lib.dg at e
  have h3 : 1 ≤ u / 10 ^ k := (Nat.le_div_iff_mul_le (Nat.pow_pos (by omega))).2 (by simpa using h1)
  have h4 : u / 10 ^ k < 10 := (Nat.div_lt_iff_lt_mul (Nat.pow_pos (by omega))).2 (by rw [Nat.mul_comm, ← Nat.pow_succ]; exact h2)
  have h5 : k + 1 - 1 - 0 = k := by omega
  rw [h5] at e
  generalize u / 10 ^ k = q at *
  have : (UInt8.ofNat (48 + q % 10)).toNat = 48 := by rw [e]; rfl
  simp at this
  omega
theorem trim_chunk (x k : Nat) (h : x ≠ 0) : Lib.trimLeftB (Lib.repeatL [48] k ++ Lib.decDigits x) 48 = Lib.decDigits x := by
  unfold Lib.trimLeftB
  induction k with
  | zero =>
    show (([] : List UInt8) ++ Lib.decDigits x).dropWhile (· == 48) = _
    rw [List.nil_append]
    have hh := digits_head x h
    cases hd : Lib.decDigits x with
    | nil => rfl
    | cons a l =>
      rw [hd] at hh
      rw [List.dropWhile_cons, if_neg (by simpa using hh)]
  | succ k ih =>
    show ((48 :: Lib.repeatL [48] k) ++ Lib.decDigits x).dropWhile (· == 48) = _
    rw [List.cons_append, List.dropWhile_cons, if_pos (by rfl), ih]
theorem text_zero (A : Option Addr) (n c : Nat) (w : World) (h : Wh w A n c 0) :
    Calls Tryz.prog 43 #[.agg #[.bool (ng 0), .slice A n c]] w fun e w' => e = .returned (.string ⟨(Lib.itoa 0).toArray⟩) ∧ Below w.heap.size w w' := by
  obtain rfl : n = 0 := by rw [h.1]; exact (wl_zero 0).2 rfl
  have HV := Lib.hid (show Lib.itoa 0 = [48] from by
    show Lib.decDigits 0 = [48]
    exact Lib.decDigits_one (i := 0) (by omega))
  clear h
  go_enter Tryz.func43, Tryz.ntmps43
  go_wp2_with fail
  go_ret
  refine ⟨?_, (Below.refl _ _).alloc (Nat.le_refl _) _⟩
  rw [HV.out]
  rfl

/-- One text turned about stays. -/
theorem rev_one (g cap : Nat) (ch : List UInt8) (w : World) (hc : w.cell? ⟨g, 0, none⟩ = some (.string ⟨ch.toArray⟩)) (hf : w.frozen? ⟨g, 0, none⟩ = false) :
    Calls Tryz.prog 77 #[.slice (some ⟨g, 0, none⟩) 1 cap] w fun e w' => e = .returned (.tuple #[]) ∧ Only g w w' ∧ w'.cell? ⟨g, 0, none⟩ = some (.string ⟨ch.toArray⟩) := by
  have hHold : Go.Sort.Holds encStr w g 0 #[ch] := by
    intro j hj
    have : j = 0 := by simpa using hj
    subst this
    exact ⟨hc, hf⟩
  refine (Tryz.slices_Reverse_string g 0 cap [ch] w hHold (by simp)).mono ?_
  rintro e w' ⟨rfl, n, rfl⟩
  have hH2 : Go.Sort.Holds encStr (Go.Sort.ahead w n) g 0 #[ch] := hHold
  refine ⟨rfl, ⟨rfl, rfl, rfl, by simp [Go.Sort.putRow, Go.Sort.mapBlock, Go.Sort.ahead], fun k hk hne => ?_⟩, ?_⟩
  · show ((Go.Sort.ahead w n).heap.modify g _)[k]? = _
    rw [Array.getElem?_modify, if_neg (fun e => hne (by rw [e]))]
    rfl
  · have := Go.Sort.cell?_putRow encStr (Go.Sort.ahead w n) g 0 #[ch] [ch].reverse.toArray hH2 rfl 0 (by simp)
    simpa using this
theorem join_one (ch : List UInt8) : Lib.join [ch] [] = ch := by simp [Lib.join, List.intercalate]
set_option maxHeartbeats 2000000 in
set_option maxRecDepth 100000 in
theorem text_any (A : Option Addr) (n c : Nat) (z : Int) (w : World) (h : Wh w A n c z) (hz : z.natAbs < 10000000000000000000) (h0 : z ≠ 0) (hg : Glob w) :
    Calls Tryz.prog 43 #[.agg #[.bool (ng z), .slice A n c]] w fun e w' => e = .returned (.string ⟨(Lib.itoa z).toArray⟩) ∧ Below w.heap.size w w' := by
  have hn1 : n ≤ 1 := by rw [h.1]; exact (wl_le z 1).2 (by rw [Nat.pow_one, Q_val]; omega)
  have hn0 : n ≠ 0 := fun e => h0 ((wl_zero z).1 (by rw [← h.1]; exact e))
  obtain rfl : n = 1 := by omega
  have hl : 0 < (dig z).length := by have := h.1; unfold wl at this; omega
  obtain ⟨b, o, rfl, _, hcell⟩ := h.2.2.at_ (u64s_get _ 0 hl)
  have hd : (dig z)[0] = z.natAbs := by
    rw [dig_get z 0 hl, Nat.pow_zero, Nat.div_one]
    exact Nat.mod_eq_of_lt (by rw [Q_val]; omega)
  rw [hd] at hcell
  obtain ⟨x, hx⟩ : ∃ x, z.natAbs = x := ⟨_, rfl⟩
  rw [hx] at hcell hz
  have hx0 : x ≠ 0 := by omega
  have hc1 : w.cell? ⟨b, o, none⟩ = some (.int .u64 (x : Int)) := by simpa using hcell
  have HX := Lib.hid hx
  have HG := Lib.hid hg
  have HH0 := Lib.hid h0
  clear h hd hcell hl hx hg hn1 hn0 h0
  go_enter Tryz.func43, Tryz.ntmps43
  go_wp2_with fail
  refine (clone_one b o c x _ (cell_below hc1 ((Below.refl _ _).alloc (Nat.le_refl _) _))).mono ?_
  rintro e w1 ⟨g, cap, rest, rfl, hB, hgl, hcap, hcapm, hb1⟩
  have hb1' : Below w.heap.size w w1 := ((Below.refl _ _).alloc (Nat.le_refl _) _).trans (hb1.mono (by simp))
  have hgw : w.heap.size + 1 ≤ g := by simpa using hgl
  have hBx := (Blk.new w 35 #[.bool (ng z), .slice (some ⟨b, o, none⟩) 1 c]).next hb1
  obtain ⟨k0, k1, _⟩ := cells2 hBx
  have HBx := Lib.hid hBx
  have HB1 := Lib.hid hb1'
  have HB := Lib.hid hB
  have hg0 := hB.cell 0
  have hgf := hB.frozen 0
  simp only [List.getElem?_toArray, List.getElem?_cons_zero] at hg0
  clear hb1 hb1' hB hgl hBx
  go_wp2_with fail
  refine wp_loop_rounds 2 ?_
  rw [rounds_succ]
  go_wp2_with fail
  refine wp_loop_rounds 2 ?_
  rw [rounds_succ]
  go_wp2_with fail
  refine (div_any x _ hz).mono ?_
  rintro e w2 ⟨rfl, hb⟩
  obtain ⟨hc, hf⟩ := bcell hb
  have hgl := HB.out.lt
  have hB2 := HB.out.next hb
  have hg0 := hB2.cell 0
  have hgf := hB2.frozen 0
  simp only [List.getElem?_toArray, List.getElem?_cons_zero] at hg0
  have HBx2 := Lib.hid (HBx.out.next hb)
  have HB2 := Lib.hid hB2
  have HB3 := Lib.hid (HB1.out.trans (hb.mono HB1.out.size))
  clear hc hf hb hB2
  go_wp2_with fail
  rw [rounds_succ]
  go_wp2_with fail
  have HB4 := Lib.hid (HB2.out.set_ 0 (.int .u64 0))
  have HBx3 := Lib.hid (HBx2.out.other (p := ⟨g, 0, none⟩) (by show w.heap.size ≠ g; omega) (.int .u64 0))
  have HB5 := Lib.hid (HB3.out.setCell (p := ⟨g, 0, none⟩) (by show w.heap.size ≤ g; omega) (.int .u64 0))
  have hlen := Lib.decDigits_length x
  have hnd : Lib.nDigits x ≤ 19 := nd_le 18 x (by omega)
  obtain ⟨s, hs⟩ : ∃ s : ByteArray, s = ⟨(Lib.decDigits x).toArray⟩ := ⟨_, rfl⟩
  have hsz : s.size ≤ 19 := by rw [hs]; show (Lib.decDigits x).toArray.size ≤ 19; rw [List.size_toArray, hlen]; exact hnd
  have HSs := Lib.hid hs
  refine (fmt_any x _ (by omega) (HG.out.below HB5.out)).mono ?_
  rintro e w3 ⟨rfl, hb⟩
  rw [← hs]
  have HBx4 := Lib.hid (HBx3.out.next hb)
  have HB6 := Lib.hid (HB4.out.next hb)
  have HB7 := Lib.hid (HB5.out.trans (hb.mono HB5.out.size))
  clear hb hs hlen hnd hc1 k0 k1 hg0 hgf
  obtain ⟨i0, hi, hz0, hz1, hz2⟩ := info_parts info_str
  go_wp2_with fail
  rw [show (19 - (s.size : Int)) = ((19 - s.size : Nat) : Int) by omega]
  refine (Tryz.strings_Repeat ⟨#[48]⟩ (19 - s.size) _ (by omega) (by
    have : (⟨#[48]⟩ : ByteArray).size = 1 := rfl
    rw [this]; omega)).mono ?_
  rintro e w4 ⟨rfl, hb⟩
  generalize hrl : Lib.repeatL _ (19 - s.size) = rl
  have hrlen : rl.length ≤ 19 := by rw [← hrl, Lib.repeatL_length]; simp
  have hcat : rl.length + s.size ≤ 9223372036854775807 := by omega
  have HRl := Lib.hid (show Lib.repeatL [48] (19 - s.size) = rl from hrl)
  clear hrl
  have HBx5 := Lib.hid (HBx4.out.next hb)
  have HB8 := Lib.hid (HB6.out.next hb)
  have HB9 := Lib.hid (HB7.out.trans (hb.mono HB7.out.size))
  clear hb
  go_wp2_with (at_builtin; refine wpList_append_own _ rfl _ _ 99 rfl w.heap.size 9 i0 (.string ⟨#[]⟩) 1 16 Tryz.underlying99 hi hz0 hz1 hz2 rfl (by decide) (.slice none 0 0) 0 [] rfl ⟨by simp, .inl ⟨rfl, rfl⟩⟩ ⟨w4.heap.size, 0, none⟩ 1 1 [.string (⟨rl.toArray⟩ ++ s)] rfl rfl ?c1 ?c2 ?c3 ?c4 ?c5 ?_)
  case c1 =>
    intro j u hj
    match j, hj with
    | 0, hj => simp at hj; subst hj; simp [Addr.add]
  case c2 => intro u hu; simp at hu; subst hu; rfl
  case c3 => unfold maxLen; omega
  case c4 => omega
  case c5 => have := HB9.out.size; simp; omega
  intro v' w5 hown' hgrow _
  have hch : (⟨rl.toArray⟩ ++ s : ByteArray) = ⟨(rl ++ Lib.decDigits x).toArray⟩ := by
    rw [HSs.out]
    apply ByteArray.ext
    rw [ByteArray.data_append]
    simp
  have hb5 : Below (w4.alloc (.cells #[.string (⟨rl.toArray⟩ ++ s)] 9)).heap.size (w4.alloc (.cells #[.string (⟨rl.toArray⟩ ++ s)] 9)) w5 :=
    ⟨hgrow.os, hgrow.tape, hgrow.output, hgrow.size, fun k hk => hgrow.block k hk (by simp [Value.ownBlock])⟩
  rw [hch] at hown'
  have htrim : Lib.trimLeftB (rl ++ Lib.decDigits x) 48 = Lib.decDigits x := by rw [← HRl.out]; exact trim_chunk x _ hx0
  have hchl : (rl ++ Lib.decDigits x).length ≤ 38 := by
    have h1 := Lib.decDigits_length x
    have h2 := nd_le 18 x (by omega)
    rw [List.length_append]; omega
  generalize rl ++ Lib.decDigits x = ch at *
  have HTrim := Lib.hid htrim
  clear htrim
  obtain ⟨g2, cap2, rfl, hg2, hh2, hcp2⟩ : ∃ g2 cap2, v' = .slice (some ⟨g2, 0, none⟩) 1 cap2 ∧ w.heap.size ≤ g2 ∧ w5.cell? ⟨g2, 0, none⟩ = some (.string ⟨ch.toArray⟩) ∧ 1 ≤ cap2 := by
    rcases hown'.2 with ⟨_, h0⟩ | ⟨g2, cap2, cur, rfl, hg2, hh, hnc, _⟩
    · omega
    · exact ⟨g2, cap2, rfl, hg2, hown'.cells (g := g2) rfl 0 _ rfl, by omega⟩
  have hfz2 := hown'.frozenAt 0
  have hx5 := (HBx5.out.alloc (.cells #[.string (⟨rl.toArray⟩ ++ s)] 9)).next hb5
  have hg5 := (HB8.out.alloc (.cells #[.string (⟨rl.toArray⟩ ++ s)] 9)).next hb5
  have hb6 : Below w.heap.size w w5 := (HB9.out.alloc HB9.out.size _).trans (hb5.mono (by have := HB9.out.size; simp; omega))
  have hrow : Row w5 (some ⟨g, 0, none⟩) (u64s [0]) := by
    refine .inr ⟨g, 0, rfl, fun i v hi => ?_⟩
    match i, hi with
    | 0, hi =>
      have := hg5.cell 0
      simp [u64s] at hi
      subst hi
      simpa using this
    | i + 1, hi => simp [u64s] at hi
  have htl : tl [0] = 0 := by
    unfold tl
    have : ofd Q [0] = 0 := rfl
    rw [this, digs_zero]; rfl
  have htr := trim_any g 0 1 cap [0] w5 rfl hcap (by omega) (Digs.cons (by unfold Q; omega) (Digs.nil _)) hrow
  rw [htl] at htr
  have HTr := Lib.hid htr
  have HX5 := Lib.hid hx5
  have HB6 := Lib.hid hb6
  have hne2 : w.heap.size ≠ g2 := by
    rintro rfl
    have := hx5.cell 0
    rw [hh2] at this
    simp at this
  have HRev := Lib.hid (rev_one g2 cap2 ch w5 hh2 hfz2)
  have hg2l := block_lt hh2
  clear hown' hgrow hb5 hx5 hg5 hb6 hrow htl htr hch hfz2 hh2
  go_wp2_with fail
  refine HTr.out.mono ?_
  rintro e w6 ⟨rfl, rfl⟩
  go_wp2_with fail
  rw [rounds_succ]
  go_wp2_with fail
  refine HRev.out.mono ?_
  rintro e w7 ⟨rfl, hO, hcc⟩
  have HX7 := Lib.hid (hO.blk hne2 HX5.out)
  have HB7 := Lib.hid (hO.below HB6.out HB6.out.size hg2)
  have hl7 := block_lt hcc
  have HCC := Lib.hid hcc
  clear hO hcc
  go_wp2_with fail
  refine (Tryz.strings_Join g2 0 cap2 [⟨ch.toArray⟩] ⟨#[]⟩ _ (by
    intro j y hj
    match j, hj with
    | 0, hj => simp at hj; subst hj; exact HCC.out) hl7 (by simp) hcp2 (by
    show (Lib.join [ch] []).length ≤ _
    rw [join_one]; omega)).mono ?_
  rintro e w8 ⟨rfl, hb⟩
  rw [show Lib.join (List.map (fun x => x.data.toList) [(⟨ch.toArray⟩ : ByteArray)]) (⟨#[]⟩ : ByteArray).data.toList = ch from join_one ch]
  obtain ⟨k0, k1, _⟩ := cells2 (HX7.out.next hb)
  have HB8' := Lib.hid (HB7.out.trans (hb.mono HB7.out.size))
  clear hb
  go_wp2_with fail
  refine (Tryz.strings_TrimLeft_one ⟨ch.toArray⟩ 48 (by decide) _).mono ?_
  rintro e w9 ⟨rfl, rfl⟩
  rw [show Lib.trimLeftB (⟨ch.toArray⟩ : ByteArray).data.toList 48 = Lib.decDigits x from HTrim.out]
  have hdlen : (Lib.decDigits x).length ≤ 19 := by rw [Lib.decDigits_length]; exact nd_le 18 x (by omega)
  have hit : (ng z = true → Lib.itoa z = 45 :: Lib.decDigits x) ∧ (ng z = false → Lib.itoa z = Lib.decDigits x) := by
    have hx := HX.out
    unfold ng Lib.itoa
    constructor <;> intro h
    · have hl : z < 0 := by simpa using h
      rw [if_pos hl, hx]
    · have hl : ¬ z < 0 := by simpa using h
      rw [if_neg hl, show z.toNat = x by omega]
  generalize Lib.decDigits x = dl at *
  have HIt := Lib.hid hit
  clear hit
  have hcat2 : 1 + dl.length ≤ 9223372036854775807 := by omega
  by_cases hng : ng z = true
  · have HI := Lib.hid (HIt.out.1 hng)
    go_wp2_with fail
    go_ret
    refine ⟨?_, HB8'.out⟩
    rw [HI.out]
    refine congrArg (fun s => Ending.returned (.string s)) ?_
    apply ByteArray.ext
    show ((⟨#[45]⟩ : ByteArray) ++ ⟨dl.toArray⟩).data = _
    rw [ByteArray.data_append]
    simp
  · have hng' : ng z = false := by simpa using hng
    have HI := Lib.hid (HIt.out.2 hng')
    clear hng
    go_wp2_with fail
    go_ret
    refine ⟨?_, HB8'.out⟩
    rw [HI.out]
    rfl
end Go.Proofs.YtbkbeglmfhaleaaGreatDoor
/-
The text of a dyadic number. Conditions: the number isn't too great; the library's tables are as its text lays them.
-/
set_option linter.unusedVariables false
namespace Go.Proofs.YtbkbeglmfhaleaaGreatDoor
open Go.RowKit
attribute [local go_sem ↓] Go.wp_at_zero Go.wp_at_succ
attribute [local go_sem ↓] ib_and_15

theorem dsign_any (A : Option Addr) (n c : Nat) (m : Int) (a' : Bool) (A' : Option Addr) (n' c' : Nat) (w : World) (hn : n = wl m) :
    Calls Tryz.prog 26 #[.agg #[.bool (ng m), .slice A n c, .bool a', .slice A' n' c']] w fun e w' => e = .returned (.int .i64 m.sign) ∧ Below w.heap.size w w' := by
  have HN := Lib.hid hn
  clear hn
  go_enter Tryz.func26, Tryz.ntmps26
  go_wp2_with fail
  refine (sign_any A n c m _ HN.out).mono ?_
  rintro e w1 ⟨rfl, hb⟩
  go_wp2_with fail
  go_ret
  exact ⟨rfl, ((Below.refl _ _).alloc (Nat.le_refl _) _).trans (hb.mono (by simp))⟩

/-- The digit of a number below 16. -/
def hexch (n : Nat) : UInt8 := if n < 10 then UInt8.ofNat (48 + n) else UInt8.ofNat (87 + n)
def hexs : ByteArray := ⟨#[48, 49, 50, 51, 52, 53, 54, 55, 56, 57, 97, 98, 99, 100, 101, 102]⟩
theorem hexs_fin : ∀ n : Fin 16, hexs.data[n.val]? = some (hexch n.val) := by decide +kernel
theorem hexs_get (n : Nat) (h : n < hexs.size) : hexs[n] = hexch n := by
  have h16 : hexs.size = 16 := by decide
  have := hexs_fin ⟨n, by omega⟩
  have e : hexs.data[n]? = some hexs[n] := by
    rw [Array.getElem?_eq_getElem (by simpa using h)]; rfl
  rw [e] at this
  simpa using this
/-- How many digits to base 16. -/
def nibs (x : Nat) : Nat := (bl x + 3) / 4
/-- A number's digits to base 16. -/
def hexN (x : Nat) : List UInt8 := (List.range (nibs x)).map fun j => hexch (x / 16 ^ (nibs x - 1 - j) % 16)
theorem hexN_length (x : Nat) : (hexN x).length = nibs x := by simp [hexN]
theorem hexN_take (x k : Nat) (hk : 1 ≤ k) (h : k ≤ nibs x) : (hexN x).take (nibs x - k) ++ [hexch (x / 16 ^ (k - 1) % 16)] = (hexN x).take (nibs x - (k - 1)) := by
  have hl := hexN_length x
  have e : nibs x - (k - 1) = (nibs x - k) + 1 := by omega
  rw [e, List.take_succ_eq_append_getElem (by omega)]
  congr 2
  simp only [hexN, List.getElem_map, List.getElem_range]
  rw [show nibs x - 1 - (nibs x - k) = k - 1 by omega]
theorem hexN_all (x : Nat) : (hexN x).take (nibs x - 0) = hexN x := by rw [Nat.sub_zero, ← hexN_length, List.take_length]
/-- A dyadic number's text. -/
def txt (d : Dyadic) : List UInt8 := if mant d = 0 then [48] else (if ng (mant d) = true then [45] else []) ++ hexN (mant d).natAbs ++ [112] ++ Lib.itoa (expo d)

theorem bld_new (W : World) (g : Nat) (hg : W.heap.size = g) : IsBld g g [] (W.alloc (.cells #[.pointer none, .slice none 0 0] 67)) := by
  subst hg
  exact .inl ⟨Nat.le_refl _, .slice none 0 0, heap_alloc_new W _, ⟨by simp, .inl ⟨rfl, rfl⟩⟩, by simp [Value.ownBlock]⟩
theorem bld_below {B b : Nat} {bs : List Value} {w w' : World} (h : IsBld B b bs w) (hb : Below w.heap.size w w') : IsBld B b bs w' := by
  have key : ∀ p, Lib.BuilderAt 67 5 B b p bs w → Lib.BuilderAt 67 5 B b p bs w' := by
    intro p hp
    have hlt := hp.lt
    obtain ⟨h1, v, h2, h3, h4⟩ := hp
    refine ⟨h1, v, (hb.block b hlt).trans h2, h3.kept (row := none) ⟨hb.os, hb.tape, hb.output, hb.size, fun k hk _ => hb.block k hk⟩ ?_, h4⟩
    cases hv : v.ownBlock with
    | none => exact .inl rfl
    | some x => exact .inr (by simp)
  rcases h with h | h
  · exact .inl (key _ h)
  · exact .inr (key _ h)
theorem byteCells_snoc (l : List UInt8) (c : UInt8) : Lib.byteCells l ++ [.int .u8 (c.toNat : Int)] = Lib.byteCells (l ++ [c]) := by simp [Lib.byteCells]
theorem byteCells_len (l : List UInt8) : (Lib.byteCells l).length = l.length := by simp [Lib.byteCells]

theorem win_nib (x k : Nat) : win x (k * 4) % 16 = x / 16 ^ k % 16 := by
  unfold win
  rw [Nat.mod_mod_of_dvd _ (show 16 ∣ 18446744073709551616 by decide), Nat.mul_comm, Nat.pow_mul]
end Go.Proofs.YtbkbeglmfhaleaaGreatDoor
/-
The text of a dyadic number, walked. Conditions: the number isn't too great; the library's tables are as its text lays them.
-/
set_option linter.unusedVariables false
namespace Go.Proofs.YtbkbeglmfhaleaaGreatDoor
open Go.RowKit
attribute [local go_sem ↓] Go.wp_at_zero Go.wp_at_succ
attribute [local go_sem ↓] ib_and_15

theorem dtext_zero (A : Option Addr) (n c : Nat) (a' : Bool) (A' : Option Addr) (n' c' : Nat) (w : World) (hn : n = wl 0) :
    Calls Tryz.prog 11 #[.agg #[.bool (ng 0), .slice A n c, .bool a', .slice A' n' c']] w fun e w' => e = .returned (.string ⟨#[48]⟩) ∧ Below w.heap.size w w' := by
  have HN := Lib.hid hn
  clear hn
  go_enter Tryz.func11, Tryz.ntmps11
  go_wp2_with fail
  refine (dsign_any A n c 0 a' A' n' c' _ HN.out).mono ?_
  rintro e w1 ⟨rfl, hb⟩
  rw [Int.sign_zero]
  go_wp2_with fail
  go_ret
  exact ⟨rfl, ((Below.refl _ _).alloc (Nat.le_refl _) _).trans (hb.mono (by simp))⟩

theorem itoa_le (e : Int) (h : e.natAbs < 10000000000000000000) : (⟨(Lib.itoa e).toArray⟩ : ByteArray).size ≤ 20 := by
  show (Lib.itoa e).toArray.size ≤ 20
  rw [List.size_toArray]
  have := nd_le 18 e.natAbs (by omega)
  unfold Lib.itoa
  split
  · rw [List.length_cons, Lib.decDigits_length]; omega
  · rw [Lib.decDigits_length, show e.toNat = e.natAbs by omega]; omega
/-- What stands ahead of the digits. -/
def pre (m : Int) : List UInt8 := if ng m = true then [45] else []
theorem held2 {w w' w'' : World} {p0 o0 p1 o1 B B' : Nat} {x y : Value} (h : w'.cell? ⟨p0, o0, none⟩ = some x ∧ w'.cell? ⟨p1, o1, none⟩ = some y ∧ Below B w w') (hb : Below B' w' w'') (hp : p0 < B') (hq : p1 < B') (hB : B ≤ B') :
    w''.cell? ⟨p0, o0, none⟩ = some x ∧ w''.cell? ⟨p1, o1, none⟩ = some y ∧ Below B w w'' :=
  ⟨by rw [hb.cell (p := ⟨p0, o0, none⟩) hp]; exact h.1, by rw [hb.cell (p := ⟨p1, o1, none⟩) hq]; exact h.2.1, h.2.2.trans (hb.mono hB)⟩
set_option maxHeartbeats 4000000 in
set_option maxRecDepth 100000 in
theorem dtext_digits (A : Option Addr) (n c : Nat) (m : Int) (A' : Option Addr) (n' c' : Nat) (e : Int) (w : World) (h : Wh w A n c m) (h' : Wh w A' n' c' e) (hn : n ≤ 137438953472) (h0 : m ≠ 0) (he : e.natAbs < 10000000000000000000) (hg : Glob w) :
    Calls Tryz.prog 11 #[.agg #[.bool (ng m), .slice A n c, .bool (ng e), .slice A' n' c']] w fun e' w' => e' = .returned (.string ⟨(pre m ++ hexN m.natAbs ++ [112] ++ Lib.itoa e).toArray⟩) ∧ Below w.heap.size w w' := by
  have hblb : bl m.natAbs ≤ 64 * 137438953472 := bl_wl m _ (by rw [← h.1]; exact hn)
  have hbl1 : 1 ≤ bl m.natAbs := by unfold bl; rw [if_neg (by omega)]; omega
  obtain ⟨T, hT⟩ : ∃ T, nibs m.natAbs = T := ⟨_, rfl⟩
  have hT1 : 1 ≤ T := by rw [← hT]; unfold nibs; omega
  have hTb : T ≤ 2199023255552 := by rw [← hT]; unfold nibs; omega
  have hTi : ((bl m.natAbs : Int) - 1) / 4 = (T : Int) - 1 := by rw [← hT]; unfold nibs; omega
  have hs : (m.sign == 0) = false := by
    rcases Int.lt_or_gt_of_ne h0 with hl | hl
    · rw [Int.sign_eq_neg_one_of_neg hl]; rfl
    · rw [Int.sign_eq_one_of_pos hl]; rfl
  have hsl : decide (m.sign < 0) = ng m := by
    unfold ng; congr 1
    rcases Int.lt_or_gt_of_ne h0 with hl | hl
    · rw [Int.sign_eq_neg_one_of_neg hl]; simp [hl]
    · rw [Int.sign_eq_one_of_pos hl]; simp; omega
  have hN1 := h.1
  have H := Lib.hid h
  have H' := Lib.hid h'
  have HG := Lib.hid hg
  have HN := Lib.hid hN1
  have HT := Lib.hid hT
  have HE := Lib.hid he
  have HS := Lib.hid hsl
  clear h h' hg h0 hT he hsl hN1
  go_enter Tryz.func11, Tryz.ntmps11
  go_wp2_with fail
  refine (dsign_any A n c m (ng e) A' n' c' _ HN.out).mono ?_
  rintro e1 w1 ⟨rfl, hb⟩
  have hB := (Blk.new w 37 #[.bool (ng m), .slice A n c, .bool (ng e), .slice A' n' c']).next hb
  have hB0 : Below w.heap.size w w1 := ((Below.refl _ _).alloc (Nat.le_refl _) _).trans (hb.mono (by simp))
  have hsz : w.heap.size + 1 ≤ w1.heap.size := by have := hb.size; simpa using this
  obtain ⟨k0, k1, k2, k3, _⟩ := cells4 (hB.alloc (.cells #[.pointer none, .slice none 0 0] 67))
  have HB := Lib.hid hB
  have HB0 := Lib.hid hB0
  clear hb hB hB0
  go_wp2_with fail
  refine (dsign_any A n c m (ng e) A' n' c' _ HN.out).mono ?_
  rintro e1 w2 ⟨rfl, hb⟩
  have HI := Lib.hid (bld_below (bld_new w1 _ rfl) hb)
  have hB := (HB.out.alloc (.cells #[.pointer none, .slice none 0 0] 67)).next hb
  have hbd : Below w1.heap.size w1 w2 := ((Below.refl _ _).alloc (Nat.le_refl _) _).trans (hb.mono (by simp))
  have hsz2 : w1.heap.size + 1 ≤ w2.heap.size := by have := hb.size; simpa using this
  obtain ⟨k0, k1, k2, k3, _⟩ := cells4 hB
  have HB2 := Lib.hid hB
  have HB3 := Lib.hid (HB0.out.trans (hbd.mono HB0.out.size))
  generalize hbb : w1.heap.size = b at *
  clear hb hB hbd HB HB0
  go_upto_if 10 with fail
  go_cut [] (fun wx => IsBld b b (Lib.byteCells (pre m)) wx ∧ Blk wx w.heap.size 37 #[.bool (ng m), .slice A n c, .bool (ng e), .slice A' n' c'] ∧ Below w.heap.size w wx ∧ b < wx.heap.size)
  case first =>
    clear k0 k1 k2 k3
    by_cases hng : ng m = true
    · have hml : m < 0 := by unfold ng at hng; simpa using hng
      have HP := Lib.hid (show pre m = [45] by unfold pre; rw [if_pos hng])
      have HNg := Lib.hid hng
      clear hng
      go_wp2_with fail
      refine (writeString_any b b [] ⟨#[45]⟩ _ (by simpa [Lib.byteCells] using HI.out) (by decide) (by omega)).mono ?_
      rintro e1 w3 ⟨rfl, hI3, hb⟩
      go_wp2_with fail
      go_meet
      refine ⟨?_, HB2.out.below hb (by omega), HB3.out.trans (hb.mono (by omega)), by have := hb.size; omega⟩
      rw [HP.out]
      exact hI3
    · have hng' : ng m = false := by simpa using hng
      have hml : 0 ≤ m := by unfold ng at hng'; simpa using hng'
      have hml2 : ¬ m < 0 := by omega
      have HP := Lib.hid (show pre m = [] by unfold pre; rw [if_neg hng])
      have HNg := Lib.hid hng'
      clear hng hng'
      go_wp2_with fail
      go_meet
      refine ⟨?_, HB2.out, HB3.out, by omega⟩
      rw [HP.out]
      exact HI.out
  case rest =>
    obtain ⟨hI, hB, hbw, hbl⟩ := hcut
    have H''' := Lib.hid (H.out.below hbw)
    have HIn := Lib.hid hI
    have HBn := Lib.hid hB
    have HBw := Lib.hid hbw
    obtain ⟨c0, c1, c2, c3, _⟩ := cells4 hB
    clear hI hB hbw HI HB2 HB3 k0 k1 k2 k3
    rename_i wx
    go_wp2_with fail
    refine (width_any A n c m _ H'''.out (by omega)).mono ?_
    rintro e1 w3 ⟨rfl, hb3⟩
    have hB3 := Lib.hid (HBn.out.next hb3)
    have hI3 := Lib.hid (bld_below HIn.out hb3)
    have hW3 := Lib.hid (HBw.out.trans (hb3.mono HBw.out.size))
    have hL3 := Nat.lt_of_lt_of_le hbl hb3.size
    have hpre : (pre m).length ≤ 1 := by unfold pre; split <;> simp
    have HPL := Lib.hid hpre
    clear hb3 c0 c1 c2 c3 HIn HBn HBw H''' hpre hs
    go_wp2_with fail
    rw [hTi]
    clear hTi hbl1 hblb
    go_loopw [4] (fun i wr => ∃ k : Nat, k ≤ T ∧ i = .int .i64 ((k : Int) - 1) ∧ IsBld b b (Lib.byteCells (pre m ++ (hexN m.natAbs).take (T - k))) wr ∧ Blk wr w.heap.size 37 #[.bool (ng m), .slice A n c, .bool (ng e), .slice A' n' c'] ∧ Below w.heap.size w wr ∧ b < wr.heap.size) (fun i _ => (intOf i + 1).toNat)
    case atStart =>
      refine ⟨T, Nat.le_refl _, rfl, ?_, hB3.out, hW3.out, hL3⟩
      rw [Nat.sub_self, List.take_zero, List.append_nil]
      exact hI3.out
    case round =>
      obtain ⟨k, hk, rfl, hI, hB, hbw, hbl⟩ := hrel
      obtain ⟨c0, c1, c2, c3, _⟩ := cells4 hB
      have HW := Lib.hid (H.out.below hbw)
      have HIn := Lib.hid hI
      have HBn := Lib.hid hB
      have HBw := Lib.hid hbw
      clear hI hB hbw hB3 hI3 hW3
      by_cases hk0 : 1 ≤ k
      · go_wp2_with fail
        rw [show ((k : Int) - 1) * 4 = (((k - 1) * 4 : Nat) : Int) by omega]
        refine (window_any A n c m ((k - 1) * 4) _ HW.out (by omega) (by omega)).mono ?_
        rintro e1 w4 ⟨rfl, hb4⟩
        have hBn4 := Lib.hid (HBn.out.next hb4)
        have hIn4 := Lib.hid (bld_below HIn.out hb4)
        have hBw4 := Lib.hid (HBw.out.trans (hb4.mono HBw.out.size))
        have hL4 := Nat.lt_of_lt_of_le hbl hb4.size
        clear hb4 c0 c1 c2 c3 HIn HBn HBw HW
        obtain ⟨v, hv⟩ : ∃ v, win m.natAbs ((k - 1) * 4) = v := ⟨_, rfl⟩
        have hvn : v % 16 = m.natAbs / 16 ^ (k - 1) % 16 := by rw [← hv, win_nib]
        have hvQ : v < 18446744073709551616 := by rw [← hv]; unfold win; exact Nat.mod_lt _ (by decide)
        rw [hv]
        have HV := Lib.hid hvn
        clear hv hvn
        go_wp2_with fail
        rw [show (⟨#[48, 49, 50, 51, 52, 53, 54, 55, 56, 57, 97, 98, 99, 100, 101, 102]⟩ : ByteArray)[v % 16]'(by
          have h16 : (⟨#[48, 49, 50, 51, 52, 53, 54, 55, 56, 57, 97, 98, 99, 100, 101, 102]⟩ : ByteArray).size = 16 := by decide
          omega) = hexch (v % 16) from hexs_get (v % 16) _]
        have hlen : (Lib.byteCells (pre m ++ (hexN m.natAbs).take (T - k))).length + 1 ≤ 140737488355328 := by
          have := HPL.out
          have h2 := List.length_take_le (T - k) (hexN m.natAbs)
          rw [byteCells_len, List.length_append]
          omega
        refine (writeByte_any b b _ _ _ hIn4.out hlen (by omega)).mono ?_
        rintro e1 w5 ⟨rfl, hI5, hb⟩
        have hB5 := Lib.hid (hBn4.out.below hb (by omega))
        have hW5 := Lib.hid (hBw4.out.trans (hb.mono (by omega)))
        have hL5 := Nat.lt_of_lt_of_le hL4 hb.size
        have hI6 : IsBld b b (Lib.byteCells (pre m ++ (hexN m.natAbs).take (T - (k - 1)))) w5 := by
          rw [byteCells_snoc, List.append_assoc, HV.out] at hI5
          have := hexN_take m.natAbs k hk0 (by rw [HT.out]; exact hk)
          rw [HT.out] at this
          rw [this] at hI5
          exact hI5
        have hI6 := Lib.hid hI6
        clear hI5 hb hlen hIn4 hBn4 hBw4
        go_wp2_with fail
        go_roundw
        case rel => exact ⟨k - 1, by omega, by go_num, hI6.out, hB5.out, hW5.out, hL5⟩
        case measure => simp [intOf]; omega
      · obtain rfl : k = 0 := by omega
        clear c0 c1
        have HPc := Lib.hid (show IsBld b b (Lib.byteCells (pre m ++ hexN m.natAbs)) wr by
          have := HIn.out
          rw [Nat.sub_zero, ← HT.out, ← hexN_length, List.take_length] at this
          exact this)
        obtain ⟨P, hP⟩ : ∃ P, pre m ++ hexN m.natAbs = P := ⟨_, rfl⟩
        obtain ⟨s, hs⟩ : ∃ s : ByteArray, (⟨(Lib.itoa e).toArray⟩ : ByteArray) = s := ⟨_, rfl⟩
        have hPl : P.length ≤ 2199023255553 := by
          have := HPL.out
          rw [← hP, List.length_append, hexN_length, HT.out]
          omega
        have hsl : s.size ≤ 20 := by rw [← hs]; exact itoa_le e HE.out
        have hc1 : P.length + 1 ≤ 9223372036854775807 := by omega
        have hc3 : P.length ≤ 9223372036854775806 := by omega
        have hc2 : P.length + 1 + s.size ≤ 9223372036854775807 := by omega
        rw [hP] at HPc
        have HP := Lib.hid hP
        have HSs := Lib.hid hs
        clear hP hPl hsl
        have HTx : ∀ w' : World, Below w.heap.size w w' → Calls Tryz.prog 43 #[.agg #[.bool (ng e), .slice A' n' c']] w' fun e' w'' => e' = .returned (.string s) ∧ Below w'.heap.size w' w'' := by
          intro w' hb
          rw [← hs]
          by_cases he0 : e = 0
          · subst he0
            exact text_zero A' n' c' _ (H'.out.below hb)
          · exact text_any A' n' c' e _ (H'.out.below hb) HE.out he0 (HG.out.below hb)
        have HTy := Lib.hid HTx
        clear hs HTx
        go_wp2_with fail
        have hbb2 : w.heap.size < b := by omega
        have HBd := Lib.hid HBw.out.drew
        go_region_with (first
              | (go_at_call 42; refine (Tryz.Builder_String_any b b P _ (by exact HPc.out) (by show b ≤ wr.heap.size; omega)).mono ?_; rintro e1 wS ⟨rfl, hbS⟩; have r2 := (hbS.cell (p := ⟨w.heap.size, 2, none⟩) hbb2).trans c2; have r3 := (hbS.cell (p := ⟨w.heap.size, 3, none⟩) hbb2).trans c3; have HBS := Lib.hid (HBd.out.trans (hbS.mono (Nat.le_of_lt hbb2))); clear hbS; skip)
              | (go_at_call 43; refine (HTy.out _ HBS.out).mono ?_; rintro e1 wT ⟨rfl, hbT⟩; skip))
        all_goals
          clear c2 c3 r2 r3
          go_wp2_with fail
          go_ret
          refine ⟨?_, HBS.out.trans (hbT.mono HBS.out.size)⟩
          rw [HP.out, ← HSs.out]
          refine congrArg (fun s => Ending.returned (.string s)) (ByteArray.ext ?_)
          rw [ByteArray.data_append, ByteArray.data_append]
          simp

/-- A dyadic number's text. -/
theorem dtext_any (A : Option Addr) (n c : Nat) (m : Int) (A' : Option Addr) (n' c' : Nat) (e : Int) (w : World) (h : Wh w A n c m) (h' : Wh w A' n' c' e) (hn : n ≤ 137438953472) (he : e.natAbs < 10000000000000000000) (d : Dyadic) (hm : mant d = m) (hx : expo d = e) (hg : Glob w) :
    Calls Tryz.prog 11 #[.agg #[.bool (ng m), .slice A n c, .bool (ng e), .slice A' n' c']] w fun e' w' => e' = .returned (.string ⟨(txt d).toArray⟩) ∧ Below w.heap.size w w' := by
  subst hm hx
  by_cases h0 : mant d = 0
  · have ht : txt d = [48] := by unfold txt; rw [if_pos h0]
    rw [ht, h0]
    rw [h0] at h
    exact dtext_zero A n c _ A' n' c' w h.1
  · have ht : txt d = pre (mant d) ++ hexN (mant d).natAbs ++ [112] ++ Lib.itoa (expo d) := by unfold txt pre; rw [if_neg h0]
    rw [ht]
    exact dtext_digits A n c _ A' n' c' _ w h h' hn h0 he hg
end Go.Proofs.YtbkbeglmfhaleaaGreatDoor
