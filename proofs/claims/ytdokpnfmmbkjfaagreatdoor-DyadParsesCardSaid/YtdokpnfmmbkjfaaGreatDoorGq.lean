/-
Texts of numbers, read: hexadecimal and decimal digits. Conditions: none.
-/
import Derived.Test.YtdokpnfmmbkjfaaGreatDoorGn
import Derived.Test.YtdokpnfmmbkjfaaGreatDoorZRdG
import Derived.Test.YtdokpnfmmbkjfaaGreatDoorZRdE
import Derived.Lib.IndexMore
import Derived.Lib.IndexLaws
set_option linter.unusedVariables false
set_option linter.unusedSimpArgs false
namespace Go.Proofs.YtdokpnfmmbkjfaaGreatDoor

/-- The worth of a hexadecimal digit; 16: it is none. -/
def hexv (c : UInt8) : Nat := if 48 ≤ c.toNat ∧ c.toNat ≤ 57 then c.toNat - 48 else if 97 ≤ c.toNat ∧ c.toNat ≤ 102 then c.toNat - 87 else 16
theorem hexv_fin : ∀ n : Fin 16, hexv (hexch n.val) = n.val := by decide +kernel
theorem hexv_hexch {n : Nat} (h : n < 16) : hexv (hexch n) = n := hexv_fin ⟨n, h⟩
theorem hexch_fin : ∀ n : Fin 256, hexv (UInt8.ofNat n.val) < 16 → hexch (hexv (UInt8.ofNat n.val)) = UInt8.ofNat n.val := by decide +kernel
theorem byte_of (c : UInt8) : UInt8.ofNat c.toNat = c := by simp
theorem hexch_hexv {c : UInt8} (h : hexv c < 16) : hexch (hexv c) = c := by
  have := hexch_fin ⟨c.toNat, c.toNat_lt⟩
  rw [byte_of] at this
  exact this h
theorem hexch_zero : ∀ n : Fin 16, n.val ≠ 0 → hexch n.val ≠ 48 := by decide +kernel
theorem hexv_zero_fin : ∀ n : Fin 256, hexv (UInt8.ofNat n.val) = 0 → UInt8.ofNat n.val = 48 := by decide +kernel
theorem hexv_zero {c : UInt8} (h : hexv c = 0) : c = 48 := by
  have := hexv_zero_fin ⟨c.toNat, c.toNat_lt⟩
  rw [byte_of] at this
  exact this h
def hexV (l : List UInt8) : Nat := l.foldl (fun a c => 16 * a + hexv c) 0
theorem hexV_snoc (l : List UInt8) (c : UInt8) : hexV (l ++ [c]) = 16 * hexV l + hexv c := by simp [hexV]
theorem hexV_nil : hexV [] = 0 := rfl
def Hexs (l : List UInt8) : Prop := ∀ c ∈ l, hexv c < 16
theorem Hexs.init {l : List UInt8} {c : UInt8} (h : Hexs (l ++ [c])) : Hexs l := fun x hx => h x (List.mem_append_left _ hx)
theorem Hexs.last {l : List UInt8} {c : UInt8} (h : Hexs (l ++ [c])) : hexv c < 16 := h c (by simp)
theorem Hexs.snoc {l : List UInt8} {c : UInt8} (h : Hexs l) (hc : hexv c < 16) : Hexs (l ++ [c]) := fun x hx => by
  rcases List.mem_append.1 hx with h1 | h1
  · exact h x h1
  · rw [List.mem_singleton.1 h1]; exact hc
theorem pow_four (k : Nat) : (16 : Nat) ^ k = 2 ^ (4 * k) := by rw [show (16 : Nat) = 2 ^ 4 by decide, ← Nat.pow_mul]
theorem nibs_zero : nibs 0 = 0 := rfl
theorem nibs_of {x k : Nat} (h1 : 16 ^ k ≤ x) (h2 : x < 16 ^ (k + 1)) : nibs x = k + 1 := by
  rw [pow_four] at h1 h2
  have h0 : x ≠ 0 := by have := Nat.two_pow_pos (4 * k); omega
  obtain ⟨b1, b2⟩ := bl_bounds h0
  have c1 : 4 * k < bl x := by
    rcases Nat.lt_or_ge (4 * k) (bl x) with h | h
    · exact h
    · have := Nat.pow_le_pow_right (show 0 < 2 by omega) h; omega
  have c2 : bl x - 1 < 4 * (k + 1) := by
    rcases Nat.lt_or_ge (bl x - 1) (4 * (k + 1)) with h | h
    · exact h
    · have := Nat.pow_le_pow_right (show 0 < 2 by omega) h; omega
  unfold nibs; omega
theorem nibs_at {x : Nat} (h : x ≠ 0) : ∃ k, 16 ^ k ≤ x ∧ x < 16 ^ (k + 1) ∧ nibs x = k + 1 := by
  obtain ⟨b1, b2⟩ := bl_bounds h
  have hb : bl x ≠ 0 := by unfold bl; rw [if_neg h]; omega
  have c1 : 16 ^ ((bl x - 1) / 4) ≤ x := by
    rw [pow_four]
    exact Nat.le_trans (Nat.pow_le_pow_right (by omega) (by omega)) b1
  have c2 : x < 16 ^ ((bl x - 1) / 4 + 1) := by
    rw [pow_four]
    exact Nat.lt_of_lt_of_le b2 (Nat.pow_le_pow_right (by omega) (by omega))
  exact ⟨_, c1, c2, nibs_of c1 c2⟩
theorem nibs_step {a d : Nat} (hd : d < 16) (h : a ≠ 0 ∨ d ≠ 0) : nibs (16 * a + d) = nibs a + 1 := by
  by_cases ha : a = 0
  · subst ha
    rw [nibs_zero]
    exact nibs_of (by simp; omega) (by simp; omega)
  · obtain ⟨k, h1, h2, h3⟩ := nibs_at ha
    rw [h3]
    rw [Nat.pow_succ] at h2
    exact nibs_of (by rw [Nat.pow_succ]; omega) (by rw [Nat.pow_succ, Nat.pow_succ]; omega)
theorem hexN_snoc {a d : Nat} (hd : d < 16) (h : a ≠ 0 ∨ d ≠ 0) : hexN (16 * a + d) = hexN a ++ [hexch d] := by
  have hn := nibs_step hd h
  unfold hexN
  rw [hn, List.range_succ, List.map_append]
  congr 1
  · apply List.map_congr_left
    intro j hj
    have hj := List.mem_range.1 hj
    rw [show nibs a + 1 - 1 - j = (nibs a - 1 - j) + 1 by omega, Nat.pow_succ, Nat.mul_comm (16 ^ _) 16, ← Nat.div_div_eq_div_mul, show (16 * a + d) / 16 = a by omega]
  · simp
    rw [Nat.mod_eq_of_lt hd]
theorem hexN_zero : hexN 0 = [] := rfl
theorem hexN_of_len : ∀ (n : Nat) (l : List UInt8), l.length = n → Hexs l → l.head? ≠ some 48 → hexN (hexV l) = l
  | 0, l, hl, _, _ => by rw [List.length_eq_zero_iff.1 hl]; rfl
  | n + 1, l, hl, hh, h0 => by
    rcases List.eq_nil_or_concat l with rfl | ⟨t, c, rfl⟩
    · cases hl
    rw [List.concat_eq_append] at *
    have hc := hh.last
    have ht : t.head? ≠ some 48 := by
      cases t with
      | nil => simp
      | cons x u => simpa using h0
    have ih := hexN_of_len n t (by simpa using hl) hh.init ht
    have hz : hexV t ≠ 0 ∨ hexv c ≠ 0 := by
      by_cases hv : hexV t = 0
      · refine .inr fun hc0 => ?_
        rw [hv, hexN_zero] at ih
        rw [← ih, hexv_zero hc0] at h0
        exact h0 rfl
      · exact .inl hv
    rw [hexV_snoc, hexN_snoc hc hz, ih, hexch_hexv hc]
theorem hexN_of {l : List UInt8} (hh : Hexs l) (h0 : l.head? ≠ some 48) : hexN (hexV l) = l := hexN_of_len _ l rfl hh h0
theorem hexN_facts (x : Nat) : hexV (hexN x) = x ∧ Hexs (hexN x) ∧ (hexN x).head? ≠ some 48 := by
  induction x using Nat.strongRecOn with
  | ind x ih =>
    by_cases h0 : x = 0
    · subst h0
      exact ⟨rfl, (fun c hc => nomatch hc), by rw [hexN_zero]; simp⟩
    · obtain ⟨i1, i2, i3⟩ := ih (x / 16) (by omega)
      have e : x = 16 * (x / 16) + x % 16 := by omega
      have hd : x % 16 < 16 := by omega
      have hz : x / 16 ≠ 0 ∨ x % 16 ≠ 0 := by omega
      obtain ⟨a, ha⟩ : ∃ a, x / 16 = a := ⟨_, rfl⟩
      obtain ⟨d, hdd⟩ : ∃ d, x % 16 = d := ⟨_, rfl⟩
      rw [ha, hdd] at e
      rw [ha] at i1 i2 i3 hz
      rw [hdd] at hd hz
      rw [e, hexN_snoc hd hz]
      refine ⟨by rw [hexV_snoc, i1, hexv_hexch hd], i2.snoc (by rw [hexv_hexch hd]; exact hd), ?_⟩
      by_cases hA : a = 0
      · subst hA
        have := hexch_zero ⟨d, hd⟩ (by simpa using hz)
        simpa [hexN_zero] using this
      · cases hN : hexN a with
        | nil => rw [hN] at i1; exact absurd i1.symm hA
        | cons y t => rw [hN] at i3; simpa using i3
theorem hexN_ne {x : Nat} (h : x ≠ 0) : hexN x ≠ [] := fun e => by
  have := (hexN_facts x).1
  rw [e] at this
  exact h this.symm
theorem hexs_no112 {l : List UInt8} (h : Hexs l) : (112 : UInt8) ∉ l := fun hm => by
  have := h _ hm
  exact absurd this (by decide)
theorem hexs_no45 {l : List UInt8} (h : Hexs l) : (45 : UInt8) ∉ l := fun hm => by
  have := h _ hm
  exact absurd this (by decide)

/-- The worth of a decimal digit; 10: it is none. -/
def decv (c : UInt8) : Nat := if 48 ≤ c.toNat ∧ c.toNat ≤ 57 then c.toNat - 48 else 10
theorem decv_fin : ∀ n : Fin 10, decv (UInt8.ofNat (48 + n.val)) = n.val := by decide +kernel
theorem decv_ch {n : Nat} (h : n < 10) : decv (UInt8.ofNat (48 + n)) = n := decv_fin ⟨n, h⟩
theorem ch_fin : ∀ n : Fin 256, decv (UInt8.ofNat n.val) < 10 → UInt8.ofNat (48 + decv (UInt8.ofNat n.val)) = UInt8.ofNat n.val := by decide +kernel
theorem ch_decv {c : UInt8} (h : decv c < 10) : UInt8.ofNat (48 + decv c) = c := by
  have := ch_fin ⟨c.toNat, c.toNat_lt⟩
  rw [byte_of] at this
  exact this h
def decV (l : List UInt8) : Nat := l.foldl (fun a c => 10 * a + decv c) 0
theorem decV_snoc (l : List UInt8) (c : UInt8) : decV (l ++ [c]) = 10 * decV l + decv c := by simp [decV]
def Decs (l : List UInt8) : Prop := ∀ c ∈ l, decv c < 10
theorem Decs.init {l : List UInt8} {c : UInt8} (h : Decs (l ++ [c])) : Decs l := fun x hx => h x (List.mem_append_left _ hx)
theorem Decs.last {l : List UInt8} {c : UInt8} (h : Decs (l ++ [c])) : decv c < 10 := h c (by simp)
theorem Decs.snoc {l : List UInt8} {c : UInt8} (h : Decs l) (hc : decv c < 10) : Decs (l ++ [c]) := fun x hx => by
  rcases List.mem_append.1 hx with h1 | h1
  · exact h x h1
  · rw [List.mem_singleton.1 h1]; exact hc
theorem dec_of_len : ∀ (n : Nat) (l : List UInt8), l.length = n + 1 → Decs l → (l.head? ≠ some 48 ∨ l = [48]) → Lib.decDigits (decV l) = l
  | n, l, hl, hh, h0 => by
    rcases List.eq_nil_or_concat l with rfl | ⟨t, c, rfl⟩
    · cases hl
    rw [List.concat_eq_append] at *
    have hc := hh.last
    cases n with
    | zero =>
      have : t = [] := List.length_eq_zero_iff.1 (by simpa using hl)
      subst this
      rw [show decV ([] ++ [c]) = decv c by simp [decV], Lib.decDigits_one hc, ch_decv hc]
      rfl
    | succ n =>
      have hne : t ≠ [] := fun e => by subst e; simp at hl
      have ht : t.head? ≠ some 48 := by
        cases t with
        | nil => exact absurd rfl hne
        | cons x u =>
          rcases h0 with h0 | h0
          · simpa using h0
          · simp at h0
      have ih := dec_of_len n t (by simpa using hl) hh.init (.inl ht)
      have hv : decV t ≠ 0 := fun e => by
        rw [e, Lib.decDigits_one (by omega)] at ih
        rw [← ih] at ht
        exact ht rfl
      rw [decV_snoc, dec_big (by omega), show (10 * decV t + decv c) / 10 = decV t by omega, show (10 * decV t + decv c) % 10 = decv c by omega, ih, ch_decv hc]
theorem dec_of {l : List UInt8} (hh : Decs l) (hne : l ≠ []) (h0 : l.head? ≠ some 48 ∨ l = [48]) : Lib.decDigits (decV l) = l := by
  cases hl : l.length with
  | zero => exact absurd (List.length_eq_zero_iff.1 hl) hne
  | succ n => exact dec_of_len n l hl hh h0
theorem dec_facts (x : Nat) : decV (Lib.decDigits x) = x ∧ Decs (Lib.decDigits x) ∧ Lib.decDigits x ≠ [] := by
  induction x using Nat.strongRecOn with
  | ind x ih =>
    by_cases h0 : x < 10
    · rw [Lib.decDigits_one h0]
      refine ⟨?_, fun c hc => ?_, by simp⟩
      · rw [show decV [UInt8.ofNat (48 + x)] = decv (UInt8.ofNat (48 + x)) by simp [decV], decv_ch h0]
      · rw [List.mem_singleton.1 hc, decv_ch h0]; exact h0
    · obtain ⟨i1, i2, i3⟩ := ih (x / 10) (by omega)
      have hd : x % 10 < 10 := by omega
      rw [dec_big h0]
      exact ⟨by rw [decV_snoc, i1, decv_ch hd]; omega, i2.snoc (by rw [decv_ch hd]; exact hd), by simp⟩
theorem decs_no45 {l : List UInt8} (h : Decs l) : (45 : UInt8) ∉ l := fun hm => by
  have := h _ hm
  exact absurd this (by decide)
end Go.Proofs.YtdokpnfmmbkjfaaGreatDoor
/-
The texts of numbers: which they are, cut in their parts. Conditions: none.
-/
set_option linter.unusedVariables false
set_option linter.unusedSimpArgs false
namespace Go.Proofs.YtdokpnfmmbkjfaaGreatDoor

/-- The text is a number's whose exponent is within 2^20. -/
def Canon (s : List UInt8) (d : Dyadic) : Prop := s = txt d ∧ (expo d).natAbs ≤ 1048576
def sg (neg : Bool) : List UInt8 := if neg = true then [45] else []
def hasSg (s : List UInt8) : Bool := s.head? == some 45
def unsg (s : List UInt8) : List UInt8 := if s.head? = some 45 then s.tail else s
theorem sg_unsg (s : List UInt8) : s = sg (hasSg s) ++ unsg s := by
  unfold sg hasSg unsg
  cases s with
  | nil => simp
  | cons x t =>
    by_cases h : x = 45
    · subst h; simp
    · simp [h]
theorem unsg_sg (neg : Bool) {l : List UInt8} (h : l.head? ≠ some 45) : unsg (sg neg ++ l) = l ∧ hasSg (sg neg ++ l) = neg := by
  unfold sg hasSg unsg
  cases neg
  · simp [h]
  · simp
theorem head_not {l r : List UInt8} {c : UInt8} (h : c ∉ l) (hne : l ≠ []) : (l ++ r).head? ≠ some c := by
  cases l with
  | nil => exact absurd rfl hne
  | cons x t =>
    intro e
    simp at e
    exact h (by simp [e])
theorem sgd_odd {neg : Bool} {H : Nat} (h : H % 2 = 1) : sgd neg H % 2 = 1 := by
  unfold sgd
  cases neg <;> simp <;> omega
theorem ng_sgd {neg : Bool} {H : Nat} (h : H % 2 = 1) : ng (sgd neg H) = neg := by
  unfold ng sgd
  cases neg <;> simp <;> omega
theorem txt_dy {neg : Bool} {H : Nat} (E : Int) (h : H % 2 = 1) : txt (dy (sgd neg H) E) = sg neg ++ hexN H ++ [112] ++ Lib.itoa E := by
  have ho := sgd_odd (neg := neg) h
  unfold txt
  rw [mant_dy _ _ ho, expo_dy _ _ ho, if_neg (by omega), ng_sgd h]
  have : (sgd neg H).natAbs = H := by unfold sgd; cases neg <;> simp
  rw [this]
  rfl
theorem canon_of {s : List UInt8} {neg : Bool} {H : Nat} {E : Int} (hs : s = sg neg ++ hexN H ++ [112] ++ Lib.itoa E) (h : H % 2 = 1) (hE : E.natAbs ≤ 1048576) : Canon s (dy (sgd neg H) E) :=
  ⟨by rw [txt_dy E h, hs], by rw [expo_dy _ _ (sgd_odd h)]; exact hE⟩
theorem txt_parts {s : List UInt8} {d : Dyadic} (h1 : s = txt d) (h0 : s ≠ [48]) : ∃ (neg : Bool) (H : Nat), s = sg neg ++ hexN H ++ [112] ++ Lib.itoa (expo d) ∧ H % 2 = 1 ∧ d = dy (sgd neg H) (expo d) := by
  have hm : mant d ≠ 0 := fun e => h0 (by rw [h1]; unfold txt; rw [if_pos e])
  have hd : d ≠ 0 := fun e => hm (by rw [e]; rfl)
  have ho := mant_odd d hd
  have hH : (mant d).natAbs % 2 = 1 := by omega
  have hS : sgd (ng (mant d)) (mant d).natAbs = mant d := by
    unfold sgd ng
    by_cases hl : mant d < 0
    · simp [hl]; omega
    · simp [hl]; omega
  refine ⟨ng (mant d), (mant d).natAbs, ?_, hH, ?_⟩
  · rw [h1, ← txt_dy (expo d) hH, hS, dy_mant]
  · rw [hS, dy_mant]
theorem canon_parts {s : List UInt8} {d : Dyadic} (h : Canon s d) (h0 : s ≠ [48]) : ∃ (neg : Bool) (H : Nat) (E : Int), s = sg neg ++ hexN H ++ [112] ++ Lib.itoa E ∧ H % 2 = 1 ∧ d = dy (sgd neg H) E ∧ E.natAbs ≤ 1048576 := by
  obtain ⟨h1, h2⟩ := h
  obtain ⟨neg, H, a, b, c⟩ := txt_parts h1 h0
  exact ⟨neg, H, expo d, a, b, c, h2⟩
theorem cut_one {m m' e e' : List UInt8} (h : (112 : UInt8) ∉ m) (h' : (112 : UInt8) ∉ m') (he : m ++ 112 :: e = m' ++ 112 :: e') : m = m' ∧ e = e' := by
  induction m generalizing m' with
  | nil =>
    cases m' with
    | nil => simpa using he
    | cons x t =>
      simp at he
      exact absurd (by simp [he.1]) h'
  | cons x t ih =>
    cases m' with
    | nil =>
      simp at he
      exact absurd (by simp [he.1]) h
    | cons y u =>
      simp at he
      have := ih (m' := u) (fun hm => h (by simp [hm])) (fun hm => h' (by simp [hm])) he.2
      exact ⟨by rw [he.1, this.1], this.2⟩
/-- What cutting at the first p gives. -/
theorem cut_facts (s : List UInt8) : ((Lib.cut s [112]).2.2 = true ∧ s = (Lib.cut s [112]).1 ++ 112 :: (Lib.cut s [112]).2.1 ∧ (112 : UInt8) ∉ (Lib.cut s [112]).1) ∨ ((Lib.cut s [112]).2.2 = false ∧ (112 : UInt8) ∉ s ∧ (Lib.cut s [112]).1 = s ∧ (Lib.cut s [112]).2.1 = []) := by
  unfold Lib.cut
  rw [Lib.index_one]
  have hge := Lib.indexByte_ge s 112
  by_cases h : 0 ≤ Lib.indexByte s 112
  · rw [if_pos h]
    obtain ⟨i, hi⟩ : ∃ i : Nat, Lib.indexByte s 112 = i := ⟨(Lib.indexByte s 112).toNat, by omega⟩
    obtain ⟨h1, h2⟩ := Lib.indexByte_some hi
    rw [hi]
    refine .inl ⟨rfl, ?_, ?_⟩
    · obtain ⟨hl, hg⟩ := List.getElem?_eq_some_iff.1 h1
      show s = s.take i ++ 112 :: s.drop (i + 1)
      rw [← hg, ← List.drop_eq_getElem_cons hl, List.take_append_drop]
    · intro hm
      obtain ⟨k, hk, hkk⟩ := List.mem_iff_getElem.1 hm
      have hk' : k < i := by
        have := hk
        simp at this
        omega
      refine h2 k hk' ?_
      have e1 : (s.take i)[k]? = some 112 := by
        rw [List.getElem?_eq_some_iff]
        exact ⟨hk, hkk⟩
      rw [List.getElem?_take_of_lt hk'] at e1
      exact e1
  · rw [if_neg h]
    have h1 := Lib.indexByte_none (show Lib.indexByte s 112 = -1 by omega)
    refine .inr ⟨rfl, fun hm => ?_, rfl, rfl⟩
    obtain ⟨k, hk, hkk⟩ := List.mem_iff_getElem.1 hm
    exact h1 k (by rw [List.getElem?_eq_some_iff]; exact ⟨hk, hkk⟩)
/-- The digits of an odd number without noughts ahead. -/
def MOk (m : List UInt8) : Prop := Hexs m ∧ m ≠ [] ∧ m.head? ≠ some 48 ∧ hexV m % 2 = 1
theorem MOk.hex {m : List UInt8} (h : MOk m) : hexN (hexV m) = m := hexN_of h.1 h.2.2.1
theorem mok_of {H : Nat} (h : H % 2 = 1) : MOk (hexN H) ∧ hexV (hexN H) = H := by
  obtain ⟨h1, h2, h3⟩ := hexN_facts H
  exact ⟨⟨h2, hexN_ne (by omega), h3, by rw [h1]; exact h⟩, h1⟩
/-- The digits of an exponent within 2^20. -/
def EOk (e : List UInt8) (E : Int) : Prop := Lib.itoa E = e ∧ E.natAbs ≤ 1048576
theorem itoa_ne (E : Int) : Lib.itoa E ≠ [] := by
  unfold Lib.itoa
  split
  · simp
  · exact (dec_facts _).2.2
theorem canon_yes {s m e : List UInt8} {neg : Bool} {E : Int} (hs : s = sg neg ++ (m ++ 112 :: e)) (hm : MOk m) (he : EOk e E) : Canon s (dy (sgd neg (hexV m)) E) := by
  refine canon_of ?_ hm.2.2.2 he.2
  rw [hm.hex, he.1, hs]
  simp
/-- A number's text in its parts. -/
theorem canon_cut {s : List UInt8} {d : Dyadic} (h : Canon s d) (h0 : s ≠ [48]) : ∃ (m e : List UInt8) (E : Int), unsg s = m ++ 112 :: e ∧ (112 : UInt8) ∉ m ∧ MOk m ∧ EOk e E ∧ d = dy (sgd (hasSg s) (hexV m)) E := by
  obtain ⟨neg, H, E, hs, hH, hd, hE⟩ := canon_parts h h0
  obtain ⟨hm, hv⟩ := mok_of hH
  have hu := unsg_sg neg (l := hexN H ++ ([112] ++ Lib.itoa E)) (head_not (hexs_no45 hm.1) hm.2.1)
  have es : s = sg neg ++ (hexN H ++ ([112] ++ Lib.itoa E)) := by rw [hs]; simp
  rw [← es] at hu
  exact ⟨hexN H, Lib.itoa E, E, by rw [hu.1]; rfl, hexs_no112 hm.1, hm, ⟨rfl, hE⟩, by rw [hu.2, hv]; exact hd⟩

/-- How an exponent is read: its sign, its digits. -/
theorem itoa_sg (E : Int) : unsg (Lib.itoa E) = Lib.decDigits E.natAbs ∧ hasSg (Lib.itoa E) = decide (E < 0) := by
  obtain ⟨h1, h2, h3⟩ := dec_facts E.natAbs
  have hh := head_not (r := []) (decs_no45 h2) h3
  rw [List.append_nil] at hh
  unfold Lib.itoa
  by_cases h : E < 0
  · rw [if_pos h]
    have := unsg_sg true hh
    simpa [sg, h] using this
  · rw [if_neg h]
    have := unsg_sg false hh
    have e : E.toNat = E.natAbs := by omega
    rw [e]
    simpa [sg, h] using this
theorem eok_of {e b : List UInt8} {neg : Bool} (he : e = sg neg ++ b) (hb : Decs b) (hne : b ≠ []) (h0 : b.head? ≠ some 48) (hv : decV b ≤ 1048576) : EOk e (sgd neg (decV b)) := by
  have hd := dec_of hb hne (.inl h0)
  have hz : decV b ≠ 0 := fun e0 => by
    rw [e0, Lib.decDigits_one (by omega)] at hd
    rw [← hd] at h0
    exact h0 rfl
  refine ⟨?_, by unfold sgd; cases neg <;> simp <;> exact hv⟩
  rw [he]
  unfold Lib.itoa sgd sg
  cases neg
  · rw [if_neg (by simp), if_neg (by simp)]
    simp
    exact hd
  · rw [if_pos rfl, if_pos (by omega)]
    simp
    exact hd
theorem eok_zero : EOk [48] 0 := ⟨by decide +kernel, by decide⟩
theorem eok_parts {e : List UInt8} {E : Int} (h : EOk e E) : (e = [48] ∧ E = 0) ∨ (E ≠ 0 ∧ Decs (unsg e) ∧ unsg e ≠ [] ∧ (unsg e).head? ≠ some 48 ∧ (unsg e).length ≤ 7 ∧ decV (unsg e) = E.natAbs ∧ hasSg e = decide (E < 0)) := by
  obtain ⟨h1, h2⟩ := h
  by_cases hz : E = 0
  · subst hz
    exact .inl ⟨by rw [← h1]; decide +kernel, rfl⟩
  · obtain ⟨a, b⟩ := itoa_sg E
    rw [h1] at a b
    obtain ⟨d1, d2, d3⟩ := dec_facts E.natAbs
    rw [a]
    exact .inr ⟨hz, d2, d3, digits_head _ (by omega), by rw [Lib.decDigits_length]; exact nd_le 6 _ (by omega), d1, b⟩
end Go.Proofs.YtdokpnfmmbkjfaaGreatDoor
/-
The texts of numbers: what each test of them says. Conditions: none.
-/
set_option linter.unusedVariables false
set_option linter.unusedSimpArgs false
namespace Go.Proofs.YtdokpnfmmbkjfaaGreatDoor

def signE (e : List UInt8) : Int := if hasSg e = true then -1 else 1
theorem eok_val {e : List UInt8} {E : Int} (h : EOk e E) : E = signE e * (decV (unsg e) : Int) ∧ decV (unsg e) ≤ 1048576 ∧ Decs (unsg e) ∧ unsg e ≠ [] ∧ (unsg e).length ≤ 7 := by
  rcases eok_parts h with ⟨rfl, rfl⟩ | ⟨h0, h1, h2, h3, h4, h5, h6⟩
  · refine ⟨by decide, by decide, ?_, by decide, by decide⟩
    intro c hc
    have : c = 48 := by simpa [unsg] using hc
    rw [this]; decide
  · refine ⟨?_, by rw [h5]; exact h.2, h1, h2, h4⟩
    unfold signE
    rw [h5, h6]
    by_cases hl : E < 0
    · simp [hl]; omega
    · simp [hl]; omega
theorem eok_head {e : List UInt8} {E : Int} (h : EOk e E) (h0 : e ≠ [48]) : (unsg e).head? ≠ some 48 := by
  rcases eok_parts h with ⟨h1, _⟩ | ⟨_, _, _, h3, _⟩
  · exact absurd h1 h0
  · exact h3
theorem eok_nil (E : Int) : ¬ EOk [] E := fun h => (eok_val h).2.2.2.1 rfl
/-- A digit that is none, among digits. -/
theorem decs_not {l : List UInt8} {c : UInt8} (hc : c ∈ l) (h : ¬ decv c < 10) : ¬ Decs l := fun hd => h (hd c hc)
theorem hexs_not {l : List UInt8} {c : UInt8} (hc : c ∈ l) (h : ¬ hexv c < 16) : ¬ Hexs l := fun hd => h (hd c hc)

theorem canon_no112 {l : List UInt8} (h0 : l ≠ [48]) (h : (112 : UInt8) ∉ unsg l) (d : Dyadic) : ¬ Canon l d := fun hc => by
  obtain ⟨m, e, E, h1, _⟩ := canon_cut hc h0
  rw [h1] at h
  exact h (by simp)
theorem canon_nohex {l : List UInt8} (h0 : l ≠ [48]) {i : Nat} {c : UInt8} (hc : (unsg l)[i]? = some c) (hh : Hexs ((unsg l).take i)) (hx : ¬ hexv c < 16) (hp : c ≠ 112) (d : Dyadic) : ¬ Canon l d := fun hd => by
  obtain ⟨m, e, E, h1, h2, h3, _⟩ := canon_cut hd h0
  rw [h1] at hc hh
  rcases Nat.lt_trichotomy i m.length with hl | hl | hl
  · rw [List.getElem?_append_left hl] at hc
    exact hx (h3.1 c (List.mem_of_getElem? hc))
  · subst hl
    rw [List.getElem?_append_right (Nat.le_refl _)] at hc
    simp at hc
    exact hp hc.symm
  · have : (112 : UInt8) ∈ (m ++ 112 :: e).take i := by
      rw [List.take_append]
      obtain ⟨k, hk⟩ : ∃ k, i - m.length = k + 1 := ⟨i - m.length - 1, by omega⟩
      rw [hk]
      simp
    exact absurd (hh _ this) (by decide)
theorem canon_split {l : List UInt8} (h0 : l ≠ [48]) {m e : List UInt8} (hm : (112 : UInt8) ∉ m) (hs : unsg l = m ++ 112 :: e) {d : Dyadic} (hd : Canon l d) : MOk m ∧ ∃ E, EOk e E ∧ d = dy (sgd (hasSg l) (hexV m)) E := by
  obtain ⟨m', e', E, h1, h2, h3, h4, h5⟩ := canon_cut hd h0
  rw [hs] at h1
  obtain ⟨rfl, rfl⟩ := cut_one hm h2 h1
  exact ⟨h3, E, h4, h5⟩
theorem canon_val {l : List UInt8} (h0 : l ≠ [48]) {m e : List UInt8} (hm : (112 : UInt8) ∉ m) (hs : unsg l = m ++ 112 :: e) {d : Dyadic} (hd : Canon l d) :
    d = dy (sgd (hasSg l) (hexV m)) (signE e * (decV (unsg e) : Int)) ∧ decV (unsg e) ≤ 1048576 ∧ Decs (unsg e) ∧ unsg e ≠ [] ∧ (unsg e).length ≤ 7 := by
  obtain ⟨_, E, h1, h2⟩ := canon_split h0 hm hs hd
  obtain ⟨a, b⟩ := eok_val h1
  rw [← a]
  exact ⟨h2, b⟩
theorem canon_back {l : List UInt8} (h0 : l ≠ [48]) {m e : List UInt8} (hm : (112 : UInt8) ∉ m) (hs : unsg l = m ++ 112 :: e) {d : Dyadic} (hd : l = txt d) (hv : decV (unsg e) ≤ 1048576) : Canon l d := by
  refine ⟨hd, ?_⟩
  obtain ⟨neg, H, a, b, c⟩ := txt_parts hd h0
  obtain ⟨hM, _⟩ := mok_of b
  have hu := unsg_sg neg (l := hexN H ++ ([112] ++ Lib.itoa (expo d))) (head_not (hexs_no45 hM.1) hM.2.1)
  have es : l = sg neg ++ (hexN H ++ ([112] ++ Lib.itoa (expo d))) := by rw [a]; simp
  rw [← es] at hu
  have h1 := hu.1
  rw [hs] at h1
  obtain ⟨_, h2⟩ := cut_one hm (hexs_no112 hM.1) h1
  have h3 : e = Lib.itoa (expo d) := h2
  rw [h3, (itoa_sg _).1, (dec_facts _).1] at hv
  exact hv
theorem canon_own {l : List UInt8} (h0 : l ≠ [48]) {m e : List UInt8} (hs : unsg l = m ++ 112 :: e) (hm : MOk m) {E : Int} (he : EOk e E) : Canon l (dy (sgd (hasSg l) (hexV m)) E) :=
  canon_yes (by rw [← hs]; exact sg_unsg l) hm he
/-- What Parse says of a text: the number, or that there is none. -/
def PCase (l : List UInt8) (d : Dyadic) (r : Int) : Prop := (l = [48] ∧ d = 0 ∧ r = 0) ∨ (l ≠ [48] ∧ Canon l d ∧ r = 0) ∨ (l ≠ [48] ∧ (∀ x, ¬ Canon l x) ∧ d = 0 ∧ r = 5)
theorem txt_zero : txt 0 = [48] := rfl
theorem pcase_same {l : List UInt8} {d d' : Dyadic} {r r' : Int} (h : PCase l d r) (h' : PCase l d' r') : r = r' ∧ txt d = txt d' ∧ (r = 0 → txt d = l) ∧ (r = 0 ∨ r = 5) := by
  rcases h with ⟨h1, rfl, rfl⟩ | ⟨h1, h2, rfl⟩ | ⟨h1, h2, rfl, rfl⟩ <;> rcases h' with ⟨g1, rfl, rfl⟩ | ⟨g1, g2, rfl⟩ | ⟨g1, g2, rfl, rfl⟩
  · exact ⟨rfl, rfl, fun _ => by rw [h1]; rfl, .inl rfl⟩
  · exact absurd h1 g1
  · exact absurd h1 g1
  · exact absurd g1 h1
  · exact ⟨rfl, by rw [← h2.1, ← g2.1], fun _ => h2.1.symm, .inl rfl⟩
  · exact absurd h2 (g2 _)
  · exact absurd g1 h1
  · exact absurd g2 (h2 _)
  · exact ⟨rfl, rfl, (fun e => by cases e), .inr rfl⟩
end Go.Proofs.YtdokpnfmmbkjfaaGreatDoor
