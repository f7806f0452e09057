/-
strconv.FormatUint at base 10. Conditions: the number is below 2^64; the library's tables are as its text lays them.
-/
import Derived.Test.YtbkbeglmfhaleaaGreatDoorBld
import Derived.Test.YtbkbeglmfhaleaaGreatDoorShelf
import Derived.Laws.IdiomStrings
set_option linter.unusedVariables false
namespace Go.Proofs.YtbkbeglmfhaleaaGreatDoor
open Go.RowKit Go.Sort Go.Lib

theorem below_mapBlock {w : World} {b : Nat} (f : Array Value → Array Value) (B : Nat) (hB : B ≤ b) : Below B w (mapBlock w b f) := by
  refine ⟨rfl, rfl, rfl, by simp [mapBlock], fun k hk => ?_⟩
  show (w.heap.modify b (onCells f))[k]? = _
  rw [Array.getElem?_modify, if_neg (by omega)]

/-- Twenty-four bytes that are 0. -/
def z24 : Array Value := #[.int .u8 0, .int .u8 0, .int .u8 0, .int .u8 0, .int .u8 0, .int .u8 0, .int .u8 0, .int .u8 0, .int .u8 0, .int .u8 0, .int .u8 0, .int .u8 0, .int .u8 0, .int .u8 0, .int .u8 0, .int .u8 0, .int .u8 0, .int .u8 0, .int .u8 0, .int .u8 0, .int .u8 0, .int .u8 0, .int .u8 0, .int .u8 0]
theorem z24_get (j : Fin 24) : z24[j.val]? = some (.int .u8 0) := by
  have e : z24 = Array.replicate 24 (.int .u8 0) := rfl
  rw [e, Array.getElem?_replicate, if_pos j.isLt]
theorem fmt10 (W : World) (g : Nat) (hg : W.heap.size = g) (t : TypeId) (u L : Nat) (hu : u < 18446744073709551616) (hL : Lib.nDigits u = L) (hL2 : L ≤ 24) :
    Calls Tryz.prog 119 #[.slice (some ⟨g, 0, none⟩) L 24, .int .u64 u] (W.alloc (.cells z24 t)) fun e w' =>
      e = .returned (.tuple #[]) ∧ Below g (W.alloc (.cells z24 t)) w' ∧ ∀ j, j < L → w'.cell? ⟨g, j, none⟩ = some (.int .u8 (((Lib.decDigits u).getD j 0).toNat : Int)) := by
  subst hg
  have hB := Blk.new W t z24
  have hH : Holds (fun (b : UInt8) => Value.int .u8 (b.toNat : Int)) (W.alloc (.cells z24 t)) W.heap.size 0 (Array.replicate L (0 : UInt8)) := by
    intro j hj
    rw [Array.size_replicate] at hj
    refine ⟨?_, hB.frozen _⟩
    rw [Nat.zero_add, hB.cell j, z24_get ⟨j, by omega⟩]
    rw [getElem!_pos _ j (by simpa using hj), Array.getElem_replicate]
    rfl
  have hf := Tryz.internal_strconv_formatBase10 W.heap.size 0 24 u (Array.replicate L 0) _ hH (by rw [Array.size_replicate, ← hL]; exact Lib.lt_pow_nDigits u) hu (by rw [Array.size_replicate]; omega)
  rw [Array.size_replicate] at hf
  refine hf.mono ?_
  rintro e w' ⟨rfl, n, v', dk, rfl, hinv⟩
  refine ⟨rfl, below_drewN (below_mapBlock _ _ (Nat.le_refl _)) _, fun j hj => ?_⟩
  have hc := cell?_putRow (fun (b : UInt8) => Value.int .u8 (b.toNat : Int)) (W.alloc (.cells z24 t)) W.heap.size 0 (Array.replicate L (0 : UInt8)) dk hH (by rw [hinv.size, Array.size_replicate]) j (by rw [hinv.size]; exact hj)
  rw [Nat.zero_add] at hc
  show (putRow (fun (b : UInt8) => Value.int .u8 (b.toNat : Int)) (W.alloc (.cells z24 t)) W.heap.size 0 dk).cell? ⟨W.heap.size, j, none⟩ = _
  rw [hc, hinv.done j (by omega) hj, Lib.decDigits_eq, hL]
  congr 3
  simp [List.getD, hj]

set_option maxHeartbeats 1000000 in
set_option maxRecDepth 100000 in
theorem fmtU_any (u : Nat) (w : World) (hu : u < 18446744073709551616) (hg : Glob w) :
    Calls Tryz.prog 97 #[.int .u64 u, .int .i64 10] w fun e w' => e = .returned (.string ⟨(Lib.decDigits u).toArray⟩) ∧ Below w.heap.size w w' := by
  have HG := Lib.hid hg
  clear hg
  by_cases h : u < 100
  · have hd : decide (u < 100) = true := by simp [h]
    go_enter Tryz.func97, Tryz.ntmps97
    go_wp2_with fail
    refine (Tryz.internal_strconv_small u h _).mono ?_
    rintro e w1 ⟨rfl, rfl⟩
    go_wp2_with fail
    go_ret
    exact ⟨rfl, Below.refl _ _⟩
  · have h1 : 1 ≤ u := by omega
    have hn : 1 ≤ Lib.nDigits u := Lib.nDigits_pos u
    have hn2 : Lib.nDigits u ≤ 20 := by
      obtain ⟨e1, e2⟩ := Lib.numDigits_eq u h1 hu
      rw [← e1]; split <;> omega
    have hlt := Lib.lt_pow_nDigits u
    have hdd := Lib.decDigits_eq u
    generalize hL : Lib.nDigits u = L at *
    have HL := Lib.hid hL
    have HLt := Lib.hid hlt
    have HD := Lib.hid hdd
    clear hL hlt hdd
    have ht : decide (u < 100) = false := by simp [h]
    have hb1 : (L : Int) ≤ 24 := by omega
    have hb2 : L ≤ 24 := by omega
    have hb3 : ((L : Int)).toNat = L := by omega
    go_enter Tryz.func97, Tryz.ntmps97
    go_wp2_with fail
    refine (Tryz.internal_strconv_numDigits u h1 hu _ (HG.out.below ((Below.refl _ _).alloc (Nat.le_refl _) _)).tab).mono ?_
    rintro e w1 ⟨rfl, rfl⟩
    rw [HL.out]
    go_wp2_with fail
    refine (fmt10 w w.heap.size rfl 143 u L hu HL.out hb2).mono ?_
    rintro e w1 ⟨rfl, hbl, hcells⟩
    have hlen : (Lib.decDigits u).length = L := by rw [Lib.decDigits_length, HL.out]
    have hcv := run_convert_bytes_back (P := Tryz.prog) w1 65 9 5 ⟨w.heap.size, 0, none⟩ 24 (Lib.decDigits u) Tryz.underlying65 Tryz.underlying5 Tryz.underlying9 (by
        intro j hj
        rw [hlen] at hj
        have := hcells j hj
        have ha : (⟨w.heap.size, 0, none⟩ : Addr).add j = ⟨w.heap.size, j, none⟩ := by
          unfold Addr.add; split
          · rename_i h; subst h; rfl
          · simp
        rw [ha, this]
        simp [List.getD, hlen, hj])
    rw [hlen] at hcv
    have HBl := Lib.hid hbl
    clear hbl hcells hlen
    go_wp2_with fail
    go_ret
    exact ⟨rfl, ((RowKit.Below.refl _ _).alloc (Nat.le_refl _) _).trans HBl.out⟩
theorem fmt_any (u : Nat) (w : World) (hu : u < 18446744073709551616) (hg : Glob w) :
    Calls Tryz.prog 75 #[.int .u64 u, .int .i64 10] w fun e w' => e = .returned (.string ⟨(Lib.decDigits u).toArray⟩) ∧ RowKit.Below w.heap.size w w' := by
  have HG := Lib.hid hg
  clear hg
  go_enter Tryz.func75, Tryz.ntmps75
  go_wp2_with fail
  refine (fmtU_any u _ hu HG.out).mono ?_
  rintro e w1 ⟨rfl, hb⟩
  go_wp2_with fail
  go_ret
  exact ⟨rfl, hb⟩
end Go.Proofs.YtbkbeglmfhaleaaGreatDoor
