/-
What Parse comes to, that of package num and the document's. Conditions: the text's length is a length.
-/
import Derived.Test.YtgghpidfkcbbdaaScales
set_option linter.unusedVariables false
namespace Go.Proofs.Ytgghpidfkcbbdaa
open Go.RowKit
attribute [local go_sem ↓] ib_andNot_sign ib_and_frac ib_and_15 ib_and_1 ib_and_sign ib_and_inf ib_or

/-- What a digit is worth. -/
def hv (c : Nat) : Option Nat := if 48 ≤ c ∧ c ≤ 57 then some (c - 48) else if 97 ≤ c ∧ c ≤ 102 then some (c - 87) else none
/-- What a text of digits comes to. -/
def pv (l : List UInt8) : Option Nat := l.foldl (fun acc c => acc.bind fun b => (hv c.toNat).map (b * 16 + ·)) (some 0)
/-- What Parse answers. -/
def parseB (l : List UInt8) : Nat := if l.length = 16 then (pv l).getD 0 else 0
def parseE (l : List UInt8) : Int := if l.length = 16 ∧ (pv l).isSome = true then 0 else 5

theorem pv_snoc (l : List UInt8) (c : UInt8) : pv (l ++ [c]) = (pv l).bind fun b => (hv c.toNat).map (b * 16 + ·) := by
  unfold pv; rw [List.foldl_append]; rfl
theorem pv_none (l r : List UInt8) (h : pv l = none) : pv (l ++ r) = none := by
  induction r generalizing l with
  | nil => simpa using h
  | cons c r ih =>
    have : l ++ c :: r = (l ++ [c]) ++ r := by simp
    rw [this]
    apply ih
    rw [pv_snoc, h]; rfl
theorem take_snoc (s : ByteArray) (k : Nat) (h : k < s.size) : s.data.toList.take (k + 1) = s.data.toList.take k ++ [s[k]] := by
  rw [List.take_succ_eq_append_getElem (by simpa using h)]; rfl
theorem hv_lt {c d : Nat} (h : hv c = some d) : d < 16 := by
  unfold hv at h
  split at h
  · simp at h; omega
  · split at h
    · simp at h; omega
    · cases h
theorem pv_full (s : ByteArray) (k : Nat) (h : s.data.toList.length ≤ k) : s.data.toList.take k = s.data.toList := List.take_of_length_le h
theorem pv_cut {s : ByteArray} {k : Nat} (h : pv (s.data.toList.take k) = none) : pv s.data.toList = none := by
  rw [← List.take_append_drop k s.data.toList]; exact pv_none _ _ h

/-- The ways that a byte can stand to the digits, test by test. -/
theorem byte_ways (c : Nat) :
    ((∃ d, hv c = some d ∧ (c : Int) - 48 = d) ∧ decide (48 ≤ (c : Int)) = true ∧ decide ((c : Int) ≤ 57) = true) ∨
    ((∃ d, hv c = some d ∧ (c : Int) - 87 = d) ∧ decide (48 ≤ (c : Int)) = true ∧ decide ((c : Int) ≤ 57) = false ∧ decide (97 ≤ (c : Int)) = true ∧ decide ((c : Int) ≤ 102) = true) ∨
    (hv c = none ∧ decide (48 ≤ (c : Int)) = false ∧ decide (97 ≤ (c : Int)) = false) ∨
    (hv c = none ∧ decide (48 ≤ (c : Int)) = true ∧ decide ((c : Int) ≤ 57) = false ∧ decide (97 ≤ (c : Int)) = false) ∨
    (hv c = none ∧ decide (48 ≤ (c : Int)) = true ∧ decide ((c : Int) ≤ 57) = false ∧ decide (97 ≤ (c : Int)) = true ∧ decide ((c : Int) ≤ 102) = false) := by
  unfold hv
  by_cases h1 : 48 ≤ c
  · by_cases h2 : c ≤ 57
    · left; rw [if_pos ⟨h1, h2⟩]; refine ⟨⟨c - 48, rfl, by omega⟩, ?_, ?_⟩ <;> simp <;> omega
    · right; rw [if_neg (by omega)]
      by_cases h3 : 97 ≤ c
      · by_cases h4 : c ≤ 102
        · left; rw [if_pos ⟨h3, h4⟩]; refine ⟨⟨c - 87, rfl, by omega⟩, ?_, ?_, ?_, ?_⟩ <;> simp <;> omega
        · right; right; right; rw [if_neg (by omega)]; refine ⟨rfl, ?_, ?_, ?_, ?_⟩ <;> simp <;> omega
      · right; right; left; rw [if_neg (by omega)]; refine ⟨rfl, ?_, ?_, ?_⟩ <;> simp <;> omega
  · right; right; left; rw [if_neg (by omega), if_neg (by omega)]; refine ⟨rfl, ?_, ?_⟩ <;> simp <;> omega

theorem ret2_ub {a a' : Int} {b b' : Bool} (h1 : a = a') (h2 : b = b') : Ending.returned (.tuple #[.int .u64 a, .bool b]) = .returned (.tuple #[.int .u64 a', .bool b']) := by rw [h1, h2]
theorem worth_any (c : Nat) (w : World) (hc : c < 256) :
    Calls Try.prog 32 #[.int .u8 (c : Int)] w fun e w' => e = .returned (.tuple #[.int .u64 (((hv c).getD 0 : Nat) : Int), .bool (hv c).isSome]) ∧ w = w' := by
  rcases byte_ways c with ⟨⟨d, hd, he⟩, t1, t2⟩ | ⟨⟨d, hd, he⟩, t1, t2, t3, t4⟩ | ⟨hd, t1, t3⟩ | ⟨hd, t1, t2, t3⟩ | ⟨hd, t1, t2, t3, t4⟩
  all_goals
    rw [hd]
    try have HE := Lib.hid he
    try clear he
    clear hd
    try have hx2 : 48 ≤ c := by have t := of_decide_eq_true t1; omega
    try have hx3 : 97 ≤ c := by have t := of_decide_eq_true t3; omega
    go_enter Try.func32, Try.ntmps32
    go_wp2
    go_ret2
    refine ⟨ret2_ub ?_ rfl, rfl⟩
    first
      | rfl
      | (have := HE.out; simp; omega)

theorem ret2_fe {a a' : Nat} {b b' : Int} (h1 : a = a') (h2 : b = b') : Ending.returned (.tuple #[.float .f64 a, .int .i64 b]) = .returned (.tuple #[.float .f64 a', .int .i64 b']) := by rw [h1, h2]

theorem pow16 (k : Nat) (h : k < 16) : 16 ^ k * 16 ≤ 18446744073709551616 := by
  rw [← Nat.pow_succ]
  have h : 16 ^ (k + 1) ≤ 16 ^ 16 := Nat.pow_le_pow_right (by omega) (by omega)
  exact h
theorem parse_step {s : ByteArray} {k B : Nat} (hk : k < s.size) (hB : pv (s.data.toList.take k) = some B) : pv (s.data.toList.take (k + 1)) = (hv s[k].toNat).map (B * 16 + ·) := by
  rw [take_snoc s k hk, pv_snoc, hB]; rfl

set_option maxHeartbeats 400000 in
theorem parse_any (s : ByteArray) (w : World) (hs : s.size ≤ maxLen) :
    Calls Try.prog 22 #[.string s] w fun e w' => e = .returned (.tuple #[.float .f64 (parseB s.data.toList), .int .i64 (parseE s.data.toList)]) ∧ w = w' := by
  unfold maxLen at hs
  have hl : s.data.toList.length = s.size := by simp
  by_cases h16 : s.size = 16
  · have hne : ((s.size : Int) != 16) = false := by simp [h16]
    have H16 := Lib.hid h16
    have HLen := Lib.hid hl
    have hle : s.size ≤ 16 := by omega
    have hge : 16 ≤ s.size := by omega
    clear h16 hl
    go_enter Try.func22, Try.ntmps22
    go_wp2
    go_loop [4, 13] (fun x i => ∃ k B : Nat, k ≤ 16 ∧ i = .int .i64 k ∧ x = .int .u64 B ∧ B < 16 ^ k ∧ pv (s.data.toList.take k) = some B) (fun _ i => 16 - (intOf i).toNat)
    case atStart => exact ⟨0, 0, by omega, rfl, rfl, by simp, by simp [pv]⟩
    case round =>
      obtain ⟨k, B, hk, rfl, rfl, hB, hp⟩ := hrel
      by_cases hlt : k < 16
      · have hks : k < s.size := by omega
        have hst := parse_step hks hp
        have hpw := pow16 k hlt
        have hb60 : B * 16 + 16 ≤ 18446744073709551616 := by
          have := Nat.mul_le_mul_right 16 hB; simp at this; omega
        have HST := Lib.hid hst
        have HB := Lib.hid hB
        clear hp hst hpw hB
        go_wp2_with fail
        refine (worth_any s[k].toNat _ (UInt8.toNat_lt _)).mono ?_
        rintro e w' ⟨rfl, rfl⟩
        cases hd : hv s[k].toNat with
        | none =>
          have hst := HST.out
          rw [hd] at hst
          have HN := Lib.hid (pv_cut hst)
          clear hst hd HST HB
          go_wp2_with fail
          go_ret2
          refine ⟨ret2_fe ?_ ?_, rfl⟩
          · unfold parseB; rw [HN.out]; simp
          · unfold parseE; rw [HN.out]; simp
        | some d =>
          have hd16 := hv_lt hd
          have hst := HST.out
          rw [hd] at hst
          have HN := Lib.hid hst
          have ho := orU_nat (a := B * 16) (b := d) 4 (by omega) (by omega) hd16 (by omega)
          have HO := Lib.hid ho
          clear hst hd HST ho
          go_wp2_with fail
          go_round
          case rel =>
            refine ⟨k + 1, B * 16 + d, by omega, by go_num, ?_, ?_, HN.out⟩
            · have := HO.out
              rw [← this, show ((B * 16 : Nat) : Int) = (B : Int) * 16 by omega]
            · rw [Nat.pow_succ]
              have := Nat.mul_le_mul_right 16 HB.out
              simp at this; omega
          case measure => simp [intOf]; omega
      · have hpf : pv s.data.toList = some B := by
          rw [← hp, pv_full s k (by rw [HLen.out, H16.out]; omega)]
        have HP := Lib.hid hpf
        have hk16 : k = 16 := by omega
        have hB64 : B < 18446744073709551616 := by rw [hk16] at hB; simpa using hB
        clear hp hpf hB hk16
        go_wp2_with fail
        go_ret2
        refine ⟨ret2_fe ?_ ?_, rfl⟩
        · unfold parseB; rw [HP.out, HLen.out, H16.out]; simp
        · unfold parseE; rw [HP.out, HLen.out, H16.out]; simp
  · have hne : ((s.size : Int) != 16) = true := by simp; omega
    have hb : parseB s.data.toList = 0 := by unfold parseB; rw [if_neg (by omega)]
    have he : parseE s.data.toList = 5 := by unfold parseE; rw [if_neg (by omega)]
    rw [hb, he]
    clear hb he h16 hl
    go_enter Try.func22, Try.ntmps22
    go_wp2
    go_ret2
    exact ⟨rfl, rfl⟩
end Go.Proofs.Ytgghpidfkcbbdaa
