/-
The document's answer for dyadic numbers: decimal digits.
-/
import Derived.Test.YtbkbeglmfhaleaaGreatDoorUcb
import Derived.Test.YtbkbeglmfhaleaaGreatDoorUcf
import Derived.Laws.IdiomStrings
set_option linter.unusedVariables false
namespace Go.Proofs.YtbkbeglmfhaleaaGreatDoor
open Go.RowKit
attribute [local go_sem ↓] Go.wp_at_zero Go.wp_at_succ

theorem one_back (W : World) (c : UInt8) : (convert 65 9 (.slice (some ⟨W.heap.size, 0, none⟩) 1 1)).run Tryz.prog (W.alloc (.cells #[.int .u8 (c.toNat : Int)] 5)) = .ok (.string ⟨#[c]⟩) (W.alloc (.cells #[.int .u8 (c.toNat : Int)] 5)) := by
  have h := run_convert_bytes_back (P := Tryz.prog) (W.alloc (.cells #[.int .u8 (c.toNat : Int)] 5)) 65 9 5 ⟨W.heap.size, 0, none⟩ 1 [c] Tryz.underlying65 Tryz.underlying5 Tryz.underlying9 (by
    intro j hj
    have : j = 0 := by simpa using hj
    subst this
    simp [Addr.add])
  exact h
theorem dig_byte (d : Nat) (h : d < 10) : 48 + (d : Int) = ((UInt8.ofNat (48 + d)).toNat : Int) := by
  have : ∀ d : Fin 10, 48 + (d.val : Int) = ((UInt8.ofNat (48 + d.val)).toNat : Int) := by decide
  exact this ⟨d, h⟩
theorem cons_text (c : UInt8) (t : List UInt8) : (⟨#[c]⟩ ++ ⟨t.toArray⟩ : ByteArray) = ⟨(c :: t).toArray⟩ := by
  apply ByteArray.ext
  rw [ByteArray.data_append]
  simp
theorem dec_big {u : Nat} (h : ¬ u < 10) : Lib.decDigits u = Lib.decDigits (u / 10) ++ [UInt8.ofNat (48 + u % 10)] := by rw [Lib.decDigits, dif_neg h]
/-- What is left of a number, and its digits so far. -/
def DPart (x X : Nat) (t : List UInt8) : Prop := Lib.decDigits X ++ t = Lib.decDigits x ∧ t.length ≤ 30 ∧ X * 10 ^ t.length ≤ x

set_option maxHeartbeats 1000000 in
set_option maxRecDepth 100000 in
theorem digits_pos (x : Nat) (w : World) (hx : x ≤ 1000000000000000000) :
    Calls Tryz.prog 45 #[.int .i64 (x : Int)] w fun e w' => e = .returned (.string ⟨(Lib.decDigits x).toArray⟩) ∧ Below w.heap.size w w' := by
  have HXx := Lib.hid hx
  clear hx
  go_enter Tryz.func45, Tryz.ntmps45
  go_wp2_with fail
  go_loopw [0, 3] (fun a s wr => ∃ (X : Nat) (t : List UInt8), a = .int .i64 (X : Int) ∧ X ≤ 1000000000000000000 ∧ t.length ≤ 30 ∧ s = .string ⟨t.toArray⟩ ∧ Hid (DPart x X t) ∧ Below w.heap.size w wr) (fun a _ _ => (intOf a).toNat)
  case atStart => exact ⟨x, [], rfl, HXx.out, by simp, rfl, Lib.hid ⟨by simp, by simp, by simp⟩, Below.refl _ _⟩
  case round =>
    obtain ⟨X, t, rfl, hX, ht, rfl, HP, hbl⟩ := hrel
    have HX := Lib.hid hX
    clear hX
    by_cases h10 : 10 ≤ X
    · have hd : decide (10 ≤ (X : Int)) = true := by simp; omega
      have h11 := Lib.hid h10
      clear h10
      have hlen : 1 + t.length ≤ 9223372036854775807 := by omega
      go_wp2_with fail
      rw [show (X : Int) % 10 = ((X % 10 : Nat) : Int) by omega, dig_byte (X % 10) (Nat.mod_lt _ (by omega)), one_back]
      simp only [Result.andThen]
      rw [Oper.upon_value]
      go_wp2_with fail
      go_roundw
      case rel =>
        have h1 := h11.out
        have hX := HX.out
        obtain ⟨p1, p2, p3⟩ := HP.out
        have hL : t.length + 1 ≤ 30 := by
          rcases Nat.lt_or_ge t.length 30 with h | h
          · omega
          · have h2 : 10 ^ 30 ≤ 10 ^ t.length := Nat.pow_le_pow_right (by omega) h
            have h3 : 1 * 10 ^ t.length ≤ X * 10 ^ t.length := Nat.mul_le_mul_right _ (by omega)
            have h4 : (10 : Nat) ^ 30 = 1000000000000000000000000000000 := by decide
            have := HXx.out
            omega
        refine ⟨X / 10, UInt8.ofNat (48 + X % 10) :: t, ?_, by omega, by simpa using hL, ?_, Lib.hid ⟨?_, by simpa using hL, ?_⟩, hbl.alloc hbl.size _⟩
        · rw [show wrap64 ((X : Int) / 10) = ((X / 10 : Nat) : Int) by unfold wrap64; omega]
        · rw [← cons_text, UInt8.ofNat_add]
          rfl
        · rw [dec_big (by omega)] at p1
          rw [← p1]
          simp
        · rw [List.length_cons, Nat.pow_succ, Nat.mul_comm (10 ^ t.length) 10, ← Nat.mul_assoc]
          exact Nat.le_trans (Nat.mul_le_mul_right _ (by omega)) p3
      case measure =>
        have h1 := h11.out
        have hX := HX.out
        rw [show wrap64 ((X : Int) / 10) = ((X / 10 : Nat) : Int) by unfold wrap64; omega]
        simp [intOf]; omega
    · have hd : decide (10 ≤ (X : Int)) = false := by simp; omega
      have h11 := Lib.hid h10
      clear h10
      have hlen : 1 + t.length ≤ 9223372036854775807 := by omega
      go_wp2_with fail
      rw [show wrap64 (48 + (X : Int)) % 256 = 48 + (X : Int) by unfold wrap64; have := h11.out; omega, dig_byte X (by have := h11.out; omega), one_back]
      simp only [Result.andThen]
      rw [Oper.upon_value]
      go_wp2_with fail
      go_ret
      refine ⟨?_, hbl.alloc hbl.size _⟩
      have p1 := HP.out.1
      rw [Lib.decDigits_one (by have := h11.out; omega)] at p1
      rw [← p1]
      show Ending.returned (.string (⟨#[48 + UInt8.ofNat X]⟩ ++ ⟨t.toArray⟩)) = _
      rw [cons_text, UInt8.ofNat_add]
      rfl

theorem rdigits_any (e : Int) (w : World) (he : e.natAbs ≤ 1000000000000000000) :
    Calls Tryz.prog 45 #[.int .i64 e] w fun e' w' => e' = .returned (.string ⟨(Lib.itoa e).toArray⟩) ∧ Below w.heap.size w w' := by
  by_cases h0 : e < 0
  · obtain ⟨x, rfl⟩ : ∃ x : Nat, e = -(x : Int) := ⟨e.natAbs, by omega⟩
    have hx1 : 1 ≤ x := by omega
    have hx2 : x ≤ 1000000000000000000 := by omega
    rw [show Lib.itoa (-(x : Int)) = 45 :: Lib.decDigits x by unfold Lib.itoa; rw [if_pos (by omega)]; simp]
    obtain ⟨t, ht⟩ : ∃ t, Lib.decDigits x = t := ⟨_, rfl⟩
    have htl : 1 + t.length ≤ 9223372036854775807 := by
      have := nd_le 18 x (by omega)
      rw [← ht, Lib.decDigits_length]; omega
    have HC := Lib.hid (fun W => digits_pos x W hx2)
    rw [ht] at HC ⊢
    have HX2 := Lib.hid hx2
    clear ht he hx2
    have e0 : decide (-(x : Int) < 0) = true := by simp; omega
    go_enter Tryz.func45, Tryz.ntmps45
    go_wp2_with fail
    rw [show wrap64 (x : Int) = (x : Int) by unfold wrap64; have := HX2.out; omega]
    refine (HC.out _).mono ?_
    rintro e1 w1 ⟨rfl, hb⟩
    go_wp2_with fail
    go_ret
    refine ⟨?_, hb⟩
    show Ending.returned (.string (⟨#[45]⟩ ++ ⟨t.toArray⟩)) = _
    rw [cons_text]
  · obtain ⟨x, rfl⟩ : ∃ x : Nat, e = (x : Int) := ⟨e.natAbs, by omega⟩
    rw [show Lib.itoa (x : Int) = Lib.decDigits x by unfold Lib.itoa; rw [if_neg (by omega)]; simp]
    exact digits_pos x w (by omega)
end Go.Proofs.YtbkbeglmfhaleaaGreatDoor
