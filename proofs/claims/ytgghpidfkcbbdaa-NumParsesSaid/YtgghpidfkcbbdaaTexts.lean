/-
NumHex and NumParses, walked: each returns true. Conditions: the word is below 2^64; the text's length is a length.
-/
import Derived.Test.YtgghpidfkcbbdaaRparse
set_option linter.unusedVariables false
namespace Go.Proofs.Ytgghpidfkcbbdaa
open Go.RowKit

theorem hv_hex_fin : ∀ n : Fin 16, hv (hexch n.val).toNat = some n.val := by decide +kernel
theorem hv_hex (n : Nat) (h : n < 16) : hv (hexch n).toNat = some n := hv_hex_fin ⟨n, h⟩
theorem pv_hex (b : Nat) (hb : b < 18446744073709551616) (k : Nat) (hk : k ≤ 16) : pv ((hexL b).take k) = some (b / 16 ^ (16 - k)) := by
  induction k with
  | zero =>
    rw [List.take_zero]
    have : b / 16 ^ 16 = 0 := Nat.div_eq_of_lt (by simpa using hb)
    show some 0 = _
    rw [Nat.sub_zero, this]
  | succ k ih =>
    have hl := hexL_length b
    have e : (hexL b).take (k + 1) = (hexL b).take k ++ [(hexL b)[k]'(by omega)] := List.take_succ_eq_append_getElem (by omega)
    have eg : (hexL b)[k]'(by omega) = hexch (b / 16 ^ (15 - k) % 16) := by
      simp only [hexL, List.getElem_map, List.getElem_range]
      rw [show 60 - 4 * k = 4 * (15 - k) by omega, Nat.pow_mul]
    rw [e, pv_snoc, ih (by omega), eg]
    show (hv (hexch (b / 16 ^ (15 - k) % 16)).toNat).map _ = _
    rw [hv_hex _ (Nat.mod_lt _ (by omega))]
    show some _ = some _
    congr 1
    rw [show 16 - k = 15 - k + 1 by omega, Nat.pow_succ, ← Nat.div_div_eq_div_mul, show 16 - (k + 1) = 15 - k by omega]
    show b / 16 ^ (15 - k) / 16 * 16 + b / 16 ^ (15 - k) % 16 = _
    omega
theorem pv_hexL (b : Nat) (hb : b < 18446744073709551616) : pv (hexL b) = some b := by
  have h := pv_hex b hb 16 (by omega)
  rw [List.take_of_length_le (by rw [hexL_length]; omega)] at h
  simpa using h
theorem parse_hex (b : Nat) (hb : b < 18446744073709551616) : parseB (hexL b) = b ∧ parseE (hexL b) = 0 := by
  unfold parseB parseE
  rw [hexL_length, pv_hexL b hb]; simp

theorem parse_text (l : List UInt8) (w : World) (hl : l.length ≤ 100) :
    Calls Try.prog 22 #[.string ⟨l.toArray⟩] w fun e w' => e = .returned (.tuple #[.float .f64 (parseB l), .int .i64 (parseE l)]) ∧ w = w' := by
  have h := parse_any ⟨l.toArray⟩ w (by
    have : (⟨l.toArray⟩ : ByteArray).size = l.length := by simp [ByteArray.size]
    rw [this]; unfold maxLen; omega)
  simpa using h

theorem numHex_walk (b : Nat) (w : World) (hb : b < 18446744073709551616) :
    Calls Try.prog 6 #[.float .f64 b] w fun e w' => e = .returned (.bool true) ∧ Below w.heap.size w w' := by
  have HP := Lib.hid (parse_hex b hb)
  have HL := Lib.hid (hexL_length b)
  go_enter Try.func6, Try.ntmps6
  go_wp2_with fail
  refine (awake_any _).mono ?_
  rintro e w1 ⟨rfl, b1⟩
  go_wp2_with fail
  refine (hex_any b _ hb).mono ?_
  rintro e w2 ⟨rfl, b2⟩
  generalize hlx : hexL b = l
  have HX := Lib.hid hlx
  clear hlx
  go_wp2_with fail
  refine (parse_text l _ (by have := HL.out; rw [HX.out] at this; omega)).mono ?_
  rintro e w' ⟨rfl, rfl⟩
  rw [← HX.out, HP.out.1, HP.out.2]
  generalize hlx : hexL b = l
  clear hlx
  go_wp2_with fail
  refine (hex_any b _ hb).mono ?_
  rintro e w3 ⟨rfl, b3⟩
  go_wp2_with fail
  refine (rhex_any b _ hb).mono ?_
  rintro e w4 ⟨rfl, b4⟩
  generalize hexL b = l2
  go_wp2_with fail
  refine (hex_any b _ hb).mono ?_
  rintro e w5 ⟨rfl, b5⟩
  go_wp2_with fail
  refine (rhex_any b _ hb).mono ?_
  rintro e w6 ⟨rfl, b6⟩
  generalize hexL b = l3
  go_wp2_with fail
  refine (awake_any _).mono ?_
  rintro e w7 ⟨rfl, b7⟩
  go_wp2_with fail
  go_ret
  have c1 := b1.size
  have c2 := b2.size
  have c3 := b3.size
  have c4 := b4.size
  have c5 := b5.size
  have c6 := b6.size
  exact ⟨rfl, (((((b1.trans (b2.mono (by omega))).trans (b3.mono (by omega))).trans (b4.mono (by omega))).trans (b5.mono (by omega))).trans (b6.mono (by omega))).trans (b7.mono (by omega))⟩

theorem fold_none (l : List UInt8) : l.foldl (fun acc c => acc.bind fun b => (hv c.toNat).map (b * 16 + ·)) (none : Option Nat) = none := by
  induction l with
  | nil => rfl
  | cons c l ih => exact ih
theorem fold_lt (l : List UInt8) : ∀ (a n b : Nat), a < 16 ^ n → l.foldl (fun acc c => acc.bind fun b => (hv c.toNat).map (b * 16 + ·)) (some a) = some b → b < 16 ^ (n + l.length) := by
  induction l with
  | nil => intro a n b h e; simp at e; subst e; simpa using h
  | cons c l ih =>
    intro a n b h e
    rw [List.foldl_cons] at e
    cases hd : hv c.toNat with
    | none =>
      have : ((some a).bind fun b => (hv c.toNat).map (b * 16 + ·)) = none := by rw [hd]; rfl
      rw [this, fold_none] at e; cases e
    | some d =>
      have : ((some a).bind fun b => (hv c.toNat).map (b * 16 + ·)) = some (a * 16 + d) := by rw [hd]; rfl
      rw [this] at e
      have hd16 := hv_lt hd
      have := ih (a * 16 + d) (n + 1) b (by rw [Nat.pow_succ]; omega) e
      rw [List.length_cons, show n + (l.length + 1) = n + 1 + l.length by omega]
      exact this
theorem parseB_lt (l : List UInt8) : parseB l < 18446744073709551616 := by
  unfold parseB
  split
  · rename_i h
    cases hp : pv l with
    | none => simp
    | some b =>
      have := fold_lt l 0 0 b (by simp) hp
      rw [h] at this
      simpa using this
  · omega

theorem numParses_walk (s : ByteArray) (w : World) (hs : s.size ≤ maxLen) :
    Calls Try.prog 7 #[.string s] w fun e w' => e = .returned (.bool true) ∧ Below w.heap.size w w' := by
  have hlt : parseB s.data.toList < 18446744073709551616 := parseB_lt _
  have HP := Lib.hid hlt
  have HS := Lib.hid hs
  unfold maxLen at hs
  clear hlt
  by_cases h100 : 100 < s.size
  · have hd : decide (100 < (s.size : Int)) = true := by simp; omega
    clear h100
    go_enter Try.func7, Try.ntmps7
    go_wp2_with fail
    refine (awake_any _).mono ?_
    rintro e w1 ⟨rfl, b1⟩
    go_wp2_with fail
    refine (awake_any _).mono ?_
    rintro e w2 ⟨rfl, b2⟩
    go_wp2_with fail
    go_ret
    exact ⟨rfl, b1.trans (b2.mono b1.size)⟩
  · have hd : decide (100 < (s.size : Int)) = false := by simp; omega
    clear h100
    go_enter Try.func7, Try.ntmps7
    go_wp2_with fail
    refine (awake_any _).mono ?_
    rintro e w1 ⟨rfl, b1⟩
    go_wp2_with fail
    refine (parse_any s _ HS.out).mono ?_
    rintro e w' ⟨rfl, rfl⟩
    go_wp2_with fail
    refine (rparse_any s _ HS.out).mono ?_
    rintro e w' ⟨rfl, rfl⟩
    generalize parseE s.data.toList = E
    generalize parseB s.data.toList = B at *
    have hE : (E == E) = true := by simp
    go_wp2_with fail
    refine (hex_any B _ HP.out).mono ?_
    rintro e w2 ⟨rfl, b2⟩
    go_wp2_with fail
    refine (rhex_any B _ HP.out).mono ?_
    rintro e w3 ⟨rfl, b3⟩
    generalize hexL B = l
    go_wp2_with fail
    refine (awake_any _).mono ?_
    rintro e w4 ⟨rfl, b4⟩
    go_wp2_with fail
    go_ret
    have c1 := b1.size
    have c2 := b2.size
    have c3 := b3.size
    exact ⟨rfl, ((b1.trans (b2.mono (by omega))).trans (b3.mono (by omega))).trans (b4.mono (by omega))⟩
end Go.Proofs.Ytgghpidfkcbbdaa
