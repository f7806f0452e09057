/-
What Hex comes to, that of package num and the document's. Conditions: the word is below 2^64.
-/
import Derived.Test.YtgghpidfkcbbdaaBits
import Derived.Test.YtgghpidfkcbbdaaNumA
import Derived.Laws.IdiomStrings
set_option linter.unusedVariables false
namespace Go.Proofs.Ytgghpidfkcbbdaa
open Go.RowKit
attribute [local go_sem ↓] ib_andNot_sign ib_and_frac ib_and_15 ib_and_1 ib_and_sign ib_and_inf ib_or

/-- Block g of the world is just these cells, none of them frozen. -/
def Blk (w : World) (g : Nat) (t : TypeId) (cs : Array Value) : Prop := w.heap[g]? = some (.cells cs t (0, 0))
section
variable {w w' : World} {g : Nat} {t : TypeId} {cs : Array Value}
theorem Blk.cell (h : Blk w g t cs) (i : Nat) : w.cell? ⟨g, i, none⟩ = cs[i]? := cell_of_row w g i cs t (0, 0) h
theorem Blk.frozen (h : Blk w g t cs) (i : Nat) : w.frozen? ⟨g, i, none⟩ = false := by
  unfold Blk at h
  simp [World.frozen?, h]
theorem Blk.new (w : World) (t : TypeId) (cs : Array Value) : Blk (w.alloc (.cells cs t)) w.heap.size t cs := heap_alloc_new w _
theorem Blk.set_ (h : Blk w g t cs) (i : Nat) (u : Value) : Blk (w.setCell ⟨g, i, none⟩ u) g t (cs.setIfInBounds i u) := by
  unfold Blk at h ⊢
  simp [World.setCell, Array.getElem?_modify, h]
end

/-- The digit of a number below 16. -/
def hexch (n : Nat) : UInt8 := if n < 10 then UInt8.ofNat (48 + n) else UInt8.ofNat (87 + n)
/-- The sixteen digits of a word. -/
def hexL (b : Nat) : List UInt8 := (List.range 16).map fun i => hexch (b / 2 ^ (60 - 4 * i) % 16)
theorem hexL_length (b : Nat) : (hexL b).length = 16 := by simp [hexL]
def hexCells (b k : Nat) : Array Value := ((List.range 16).map fun i => Value.int .u8 (if i < k then ((hexch (b / 2 ^ (60 - 4 * i) % 16)).toNat : Int) else 0)).toArray
theorem hexCells_get (b k i : Nat) : (hexCells b k)[i]? = if i < 16 then some (Value.int .u8 (if i < k then ((hexch (b / 2 ^ (60 - 4 * i) % 16)).toNat : Int) else 0)) else none := by
  unfold hexCells
  rw [List.getElem?_toArray, List.getElem?_map]
  by_cases h : i < 16
  · rw [List.getElem?_range h, if_pos h]; rfl
  · rw [List.getElem?_eq_none (by simp; omega), if_neg h]; rfl
theorem hexCells_zero (b : Nat) : hexCells b 0 = #[.int .u8 0, .int .u8 0, .int .u8 0, .int .u8 0, .int .u8 0, .int .u8 0, .int .u8 0, .int .u8 0, .int .u8 0, .int .u8 0, .int .u8 0, .int .u8 0, .int .u8 0, .int .u8 0, .int .u8 0, .int .u8 0] := by
  unfold hexCells; simp [List.range, List.range.loop]
theorem hexCells_set (b k : Nat) (hk : k < 16) : (hexCells b k).setIfInBounds k (.int .u8 ((hexch (b / 2 ^ (60 - 4 * k) % 16)).toNat : Int)) = hexCells b (k + 1) := by
  refine Array.ext_getElem? fun i => ?_
  rw [Array.getElem?_setIfInBounds, hexCells_get, hexCells_get]
  have hs : (hexCells b k).size = 16 := by unfold hexCells; simp
  by_cases h : k = i
  · subst h; rw [if_pos rfl, if_pos (by omega), if_pos hk, if_pos (by omega)]
  · rw [if_neg h]
    by_cases h1 : i < 16
    · rw [if_pos h1, if_pos h1]
      congr 2
      by_cases h2 : i < k
      · rw [if_pos h2, if_pos (by omega)]
      · rw [if_neg h2, if_neg (by omega)]
    · rw [if_neg h1, if_neg h1]

def hexs : ByteArray := ⟨#[48, 49, 50, 51, 52, 53, 54, 55, 56, 57, 97, 98, 99, 100, 101, 102]⟩
theorem hexs_fin : ∀ n : Fin 16, hexs.data[n.val]? = some (hexch n.val) := by decide +kernel
theorem hexs_get (n : Nat) (h : n < hexs.size) : hexs[n] = hexch n := by
  have h16 : hexs.size = 16 := by decide
  have := hexs_fin ⟨n, by omega⟩
  have e : hexs.data[n]? = some hexs[n] := by
    rw [Array.getElem?_eq_getElem (by simpa using h)]; rfl
  rw [e] at this
  simpa using this

theorem hex_any (b : Nat) (w : World) (hb : b < 18446744073709551616) :
    Calls Try.prog 23 #[.float .f64 b] w fun e w' => e = .returned (.string ⟨(hexL b).toArray⟩) ∧ Below w.heap.size w w' := by
  go_enter Try.func23, Try.ntmps23
  go_wp2
  go_loopw [8] (fun i wr => ∃ k : Nat, k ≤ 16 ∧ i = .int .i64 k ∧ Below w.heap.size w wr ∧ Blk wr w.heap.size 54 (hexCells b k)) (fun i _ => 16 - (intOf i).toNat)
  case atStart => exact ⟨0, by omega, rfl, (Below.refl _ _).alloc (Nat.le_refl _) _, by rw [hexCells_zero]; exact Blk.new w 54 _⟩
  case round =>
    obtain ⟨k, hk, rfl, hbl, hB⟩ := hrel
    by_cases hlt : k < 16
    · have hcell := hB.cell k
      rw [hexCells_get, if_pos hlt, if_neg (by omega)] at hcell
      have hfz := hB.frozen k
      have hv : ∀ (h : ((b : Int) / 2 ^ (60 - 4 * k) % 16).toNat < hexs.size), Value.int .u8 ((hexs[((b : Int) / 2 ^ (60 - 4 * k) % 16).toNat]).toNat : Int) = .int .u8 ((hexch (b / 2 ^ (60 - 4 * k) % 16)).toNat : Int) := by
        intro h
        have e : ((b : Int) / 2 ^ (60 - 4 * k) % 16).toNat = b / 2 ^ (60 - 4 * k) % 16 := by
          rw [show ((2 : Int) ^ (60 - 4 * k)) = ((2 ^ (60 - 4 * k) : Nat) : Int) by simp]
          omega
        rw [hexs_get _ h, e]
      have HB := Lib.hid hB
      have HV := Lib.hid hv
      have HL := Lib.hid hbl
      clear hB hv hbl
      go_wp2
      go_roundw
      case rel => exact ⟨k + 1, by omega, by go_num, HL.out.setCell (Nat.le_refl _) _, by rw [← hexCells_set b k hlt, ← HV.out]; exact HB.out.set_ k _⟩
      case measure => simp [intOf]; omega
    · obtain rfl : k = 16 := by omega
      have hcv := run_convert_bytes_back (P := Try.prog) wr 55 9 5 ⟨w.heap.size, 0, none⟩ 16 (hexL b) Try.underlying55 Try.underlying5 Try.underlying9 (by
        intro j hj
        rw [hexL_length] at hj
        have := hB.cell j
        rw [hexCells_get, if_pos hj, if_pos hj] at this
        have ha : (⟨w.heap.size, 0, none⟩ : Addr).add j = ⟨w.heap.size, j, none⟩ := by
          unfold Addr.add; split
          · rename_i h; subst h; rfl
          · simp
        rw [ha, this]
        simp [hexL])
      rw [hexL_length] at hcv
      have HL := Lib.hid hbl
      clear hbl hB hlt
      go_wp2
      go_ret
      exact ⟨rfl, HL.out⟩

theorem hexs_cut : ∀ n : Fin 16, hexs.extract n.val (n.val + 1) = ⟨#[hexch n.val]⟩ := by decide +kernel
theorem hexs_cons (n : Nat) (h : n < 16) (t : List UInt8) : hexs.extract n (n + 1) ++ ⟨t.toArray⟩ = ⟨(hexch n :: t).toArray⟩ := by
  rw [hexs_cut ⟨n, h⟩]
  apply ByteArray.ext
  rw [ByteArray.data_append]
  simp
theorem hexL_drop (b k : Nat) (hk : k < 16) : (hexL b).drop (15 - k) = hexch (b / 16 ^ k % 16) :: (hexL b).drop (16 - k) := by
  have hl := hexL_length b
  rw [List.drop_eq_getElem_cons (by omega), show 15 - k + 1 = 16 - k by omega]
  congr 1
  simp only [hexL, List.getElem_map, List.getElem_range]
  rw [show 60 - 4 * (15 - k) = 4 * k by omega, Nat.pow_mul]

theorem rhex_any (b : Nat) (w : World) (hb : b < 18446744073709551616) :
    Calls Try.prog 24 #[.float .f64 b] w fun e w' => e = .returned (.string ⟨(hexL b).toArray⟩) ∧ Below w.heap.size w w' := by
  go_enter Try.func24, Try.ntmps24
  go_wp2
  go_loopw [3, 4, 5] (fun x s i wr => ∃ (k B : Nat) (t : List UInt8), k ≤ 16 ∧ B < 18446744073709551616 ∧ t.length ≤ 16 ∧ x = .int .u64 B ∧ s = .string ⟨t.toArray⟩ ∧ i = .int .i64 k ∧ B = b / 16 ^ k ∧ t = (hexL b).drop (16 - k) ∧ Below w.heap.size w wr) (fun _ _ i _ => 16 - (intOf i).toNat)
  case atStart => exact ⟨0, b, [], by omega, hb, by simp, rfl, rfl, rfl, by simp, by rw [List.drop_eq_nil_of_le (by rw [hexL_length]; omega)], Below.refl _ _⟩
  case round =>
    obtain ⟨k, B, t, hk, hB, htl, rfl, rfl, rfl, hBe, hte, hbl⟩ := hrel
    have HE := Lib.hid hBe
    have HT := Lib.hid hte
    have HL := Lib.hid hbl
    clear hBe hte hbl
    by_cases hlt : k < 16
    · go_wp2
      go_roundw
      case rel =>
        refine ⟨k + 1, B / 16, hexch (B % 16) :: t, by omega, by omega, ?_, by go_num, ?_, by go_num, ?_, ?_, by first | exact HL.out | exact HL.out.drew⟩
        · rw [HT.out]; simp [hexL_length]; omega
        · have := hexs_cons (B % 16) (Nat.mod_lt _ (by omega)) t
          exact congrArg Value.string this
        · rw [HE.out, Nat.pow_succ, Nat.div_div_eq_div_mul]
        · rw [HT.out, HE.out, show 16 - (k + 1) = 15 - k by omega, hexL_drop b k hlt]
      case measure => simp [intOf]; omega
    · go_wp2
      go_ret
      refine ⟨?_, HL.out⟩
      have := HT.out
      rw [show 16 - k = 0 by omega, List.drop_zero] at this
      rw [this]
      rfl
end Go.Proofs.Ytgghpidfkcbbdaa
