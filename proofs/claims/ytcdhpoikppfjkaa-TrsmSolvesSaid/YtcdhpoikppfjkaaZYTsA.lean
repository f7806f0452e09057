/-
Trsm, pure: what is added times -1 is taken off; a block of a system is a system. Conditions: as each says.
-/
import Derived.Test.YtcdhpoikppfjkaaWaad
import Derived.Test.YtcdhpoikppfjkaaZYTsG
import Derived.Test.YtcdhpoikppfjkaaWaao
set_option linter.unusedVariables false
set_option linter.unusedSimpArgs false
set_option linter.unnecessarySimpa false
namespace Go.Proofs.Ytcdhpoikppfjkaa
open Go.RowKit
attribute [local go_sem ↓] Go.wp_at_zero Go.wp_at_succ

/-- A word with the other sign. -/
def ngW (b : Nat) : Nat := if b < 9223372036854775808 then b + 9223372036854775808 else b - 9223372036854775808
theorem ngW_rung {b : Nat} (hb : b < 18446744073709551616) : Fl.rung (ngW b) = Fl.rung b := by
  unfold ngW Fl.rung
  split <;> omega
theorem ngW_sg {b : Nat} (hb : b < 18446744073709551616) : Fl.sg (ngW b) = !Fl.sg b := by
  unfold ngW Fl.sg
  split
  · rw [show (b + 9223372036854775808) / 9223372036854775808 % 2 = 1 by omega, show b / 9223372036854775808 % 2 = 0 by omega]; rfl
  · rw [show (b - 9223372036854775808) / 9223372036854775808 % 2 = 0 by omega, show b / 9223372036854775808 % 2 = 1 by omega]; rfl
theorem ngW_read {b : Nat} (hb : b < 18446744073709551616) : Ieee.double.read (ngW b) = (Ieee.double.read b).opposite := by
  rw [Fl.read_eq, Fl.read_eq, ngW_rung hb, ngW_sg hb]
  by_cases h1 : Fl.rung b < 4503599627370496
  · rw [if_pos h1, if_pos h1]; rfl
  · rw [if_neg h1, if_neg h1]
    by_cases h2 : Fl.rung b < Fl.INF
    · rw [if_pos h2, if_pos h2]; rfl
    · rw [if_neg h2, if_neg h2]
      by_cases h3 : Fl.rung b = Fl.INF
      · rw [if_pos h3, if_pos h3]; rfl
      · rw [if_neg h3, if_neg h3]; rfl
theorem ng_prod (a b : Ieee.Datum) : Ieee.Datum.product a.opposite b = (Ieee.Datum.product b a).map Ieee.Datum.opposite := by
  cases a with
  | nan s t => cases b <;> rfl
  | infinity s =>
    cases b with
    | nan t u => rfl
    | infinity t => cases s <;> cases t <;> rfl
    | number t n j =>
      simp only [Ieee.Datum.opposite, Ieee.Datum.product]
      by_cases h : n = 0
      · rw [if_pos h, if_pos h]; rfl
      · rw [if_neg h, if_neg h]; cases s <;> cases t <;> rfl
  | number s m i =>
    cases b with
    | nan t u => rfl
    | infinity t =>
      simp only [Ieee.Datum.opposite, Ieee.Datum.product]
      by_cases h : m = 0
      · rw [if_pos h, if_pos h]; rfl
      · rw [if_neg h, if_neg h]; cases s <;> cases t <;> rfl
    | number t n j =>
      simp only [Ieee.Datum.opposite, Ieee.Datum.product, Option.map_some, Nat.mul_comm n m, Int.add_comm j i]
      cases s <;> cases t <;> rfl
theorem ng_word (s : Bool) {r : Nat} (h : r < 9223372036854775808) : Ieee.double.word (!s) r = ngW (Ieee.double.word s r) := by
  rw [Fl.dbl_word, Fl.dbl_word]
  unfold ngW Fl.wd
  cases s
  · simp [h]; try omega
  · simp; try omega
theorem ng_near (s : Bool) (m : Nat) (p : Int) : Ieee.double.nearest (!s) m p = ngW (Ieee.double.nearest s m p) := by
  unfold Ieee.Format.nearest
  by_cases h : m = 0
  · rw [if_pos h, if_pos h]; exact ng_word s (by omega)
  · rw [if_neg h, if_neg h]
    have e : ∀ n d, Ieee.Toward.even.cut (!s) n d = Ieee.Toward.even.cut s n d := fun _ _ => rfl
    simp only [e]
    refine ng_word s ?_
    have : Ieee.double.infRung = 9218868437227405312 := by decide
    rw [this]
    omega
theorem ng_write (s : Bool) (d : Ieee.Datum) (h : d.isNaN = false) : Ieee.double.write d.opposite = ngW (Ieee.double.write d) := by
  cases d with
  | nan s t => cases h
  | infinity t => exact ng_word t (by decide)
  | number t m p => exact ng_near t m p
theorem prod_nan {a b d : Ieee.Datum} (h : Ieee.Datum.product a b = some d) : d.isNaN = false := by
  cases a <;> cases b <;> simp only [Ieee.Datum.product] at h
  all_goals first | (cases h; rfl) | (split at h <;> first | (cases h; done) | (cases h; rfl)) | cases h
theorem ng_mul {x m : Nat} (hx : x < 18446744073709551616) : Ieee.double.mul (ngW x) m = (Ieee.double.mul m x).map ngW := by
  unfold Ieee.Format.mul
  rw [ngW_read hx, ng_prod]
  cases h : (Ieee.double.read m).product (Ieee.double.read x) with
  | none => rfl
  | some d =>
    simp only [Option.map_some]
    rw [ng_write true d (prod_nan h)]
theorem ng_add {s p : Nat} (hp : p < 18446744073709551616) : Ieee.double.add s (ngW p) = Ieee.double.sub s p := by
  unfold Ieee.Format.add Ieee.Format.sub
  rw [ngW_read hp]
theorem prod_comm (a b : Ieee.Datum) : Ieee.Datum.product a b = Ieee.Datum.product b a := by
  cases a with
  | nan s t => cases b <;> rfl
  | infinity s =>
    cases b with
    | nan t u => rfl
    | infinity t => cases s <;> cases t <;> rfl
    | number t n j => simp only [Ieee.Datum.product]
  | number s m i =>
    cases b with
    | nan t u => rfl
    | infinity t => simp only [Ieee.Datum.product]
    | number t n j =>
      simp only [Ieee.Datum.product, Nat.mul_comm n m, Int.add_comm j i]
      cases s <;> cases t <;> rfl
/-- Minus one times a number is the number with the other sign. -/
theorem ng_one {y : Nat} (hy : y < 18446744073709551616) (hn : Fl.nan y = false) : Ieee.double.mul 13830554455654793216 y = some (ngW y) := by
  have h1 : (13830554455654793216 : Nat) = ngW 4607182418800017408 := by decide
  have h2 : Ieee.double.mul y 4607182418800017408 = Ieee.double.mul 4607182418800017408 y := by
    unfold Ieee.Format.mul
    rw [prod_comm]
  rw [h1, ng_mul (by omega), h2, bk_one hy hn]
  rfl
/-- What is added times -1 is taken off. -/
theorem ts_neg {s x m : Nat} (hx9 : Fl.nan x = false → x < 18446744073709551616) : fbin .add s (fbin .mul (fbin .mul 13830554455654793216 x) m) = fbin .sub s (fbin .mul m x) := by
  have hna : ∀ z, fbin .add z NANW = NANW := fun z => by unfold fbin; rw [fbin_nan_right nanw_nan]; rfl
  have hns : ∀ z, fbin .sub z NANW = NANW := fun z => by unfold fbin; rw [fbin_nan_right nanw_nan]; rfl
  cases hn : Fl.nan x
  · have hx := hx9 hn
    have e1 : fbin .mul 13830554455654793216 x = ngW x := by
      unfold fbin
      rw [show floatBits .mul .f64 13830554455654793216 x = some (ngW x) from ng_one hx hn]; rfl
    rw [e1]
    have e2 : floatBits .mul .f64 (ngW x) m = (floatBits .mul .f64 m x).map ngW := ng_mul hx
    cases h : floatBits .mul .f64 m x with
    | none =>
      have a1 : fbin .mul (ngW x) m = NANW := by unfold fbin; rw [e2, h]; rfl
      have a2 : fbin .mul m x = NANW := by unfold fbin; rw [h]; rfl
      rw [a1, a2, hna, hns]
    | some p =>
      have a1 : fbin .mul (ngW x) m = ngW p := by unfold fbin; rw [e2, h]; rfl
      have a2 : fbin .mul m x = p := by unfold fbin; rw [h]; rfl
      rw [a1, a2]
      unfold fbin
      rw [show floatBits .add .f64 s (ngW p) = floatBits .sub .f64 s p from ng_add (fbits_lt h)]
  · have e1 : fbin .mul 13830554455654793216 x = NANW := by unfold fbin; rw [fbin_nan_right hn]; rfl
    have e2 : fbin .mul NANW m = NANW := by unfold fbin; rw [fbin_nan_left nanw_nan]; rfl
    have e3 : fbin .mul m x = NANW := by unfold fbin; rw [fbin_nan_right hn]; rfl
    rw [e1, e2, e3, hna, hns]
theorem fbin_is {op : BinOp} {x y a b : Nat} (hx : Is x a) (hy : Is y b) : Is (fbin op x y) (fbin op a b) := (bk_comes op x y).is_ hx hy
/-- What gemv's Mul, told -1 and 1, makes of a number. -/
theorem MulP.is_ {y z : Nat} {fm : Nat → Nat → Nat} {C : Nat} {lx : List Nat} {ox ix q r : Nat} {G : Nat → Nat} (hy : Is y z) (hf : ∀ k, k < C → fm q k < 18446744073709551616) (hx : ∀ k, k < C → Is (lx.getD (ox + k * ix) 0) (G k))
    (h : MulP 13830554455654793216 4607182418800017408 y fm C lx ox ix q r) : Is r (trE (fm q) z id G C) := by
  obtain ⟨s, h1, h2⟩ := h
  have hs : Is s z := by
    unfold BegR at h1
    rw [if_neg (by decide)] at h1
    exact (h1.is_ (Is.refl (by omega)) (Is.refl hy.lt)).trans ((bk_is_one hy.lt).trans hy)
  clear h1 hy
  induction C generalizing r with
  | zero =>
    obtain rfl : r = s := h2
    exact hs
  | succ k ih =>
    obtain ⟨t, h3, p, h4, h5⟩ := h2
    have h6 := ih (fun q hq => hf q (by omega)) (fun q hq => hx q (by omega)) h3
    obtain ⟨u, k1, k2⟩ := h4
    have hk := hx k (by omega)
    have h7 : Is p (fbin .mul (fbin .mul 13830554455654793216 (G k)) (fm q k)) := k2.is_ (k1.is_ (Is.refl (by omega)) hk) (Is.refl (hf k (by omega)))
    have h8 := h5.is_ h6 h7
    rw [ts_neg (fun hn => (hk.eq_of hn) ▸ hk.lt)] at h8
    exact h8
theorem trV_ltA {kd : Nat} {f : Nat → Nat → Nat} {i k : Nat} (h : ∀ i k, f i k < 18446744073709551616) : trV kd f i k < 18446744073709551616 := by
  unfold trV
  split
  · split
    · omega
    · exact h _ _
  · split
    · exact h _ _
    · split
      · split
        · omega
        · exact h _ _
      · exact h _ _
theorem Is.trans_eqA {r z z' : Nat} (h : Is r z) (e : z = z') : Is r z' := e ▸ h
/-! ### A block of a system. -/
section
variable {n : Nat} {f : Nat → Nat → Nat} {x : Nat → Nat} {E : Nat → Nat → Nat} {F : Nat → Nat}
theorem trV_sub {kd : Nat} (hk : kd = 1 ∨ kd = 2) (f : Nat → Nat → Nat) (b p q : Nat) : trV kd (fun i k => f (b + i) (b + k)) p q = trV kd f (b + p) (b + q) := by
  unfold trV
  rcases hk with rfl | rfl
  · simp
  · simp
/-- How many products have been taken off each number ahead of a block. -/
def tsT (kd n b s : Nat) : Nat := if kd = 1 then b else n - (b + s)
theorem ts_sub {kd b s : Nat} {x' : Nat → Nat} {E' : Nat → Nat → Nat} {F' : Nat → Nat} (hk : kd = 1 ∨ kd = 2) (hS : TrS kd n (trV kd f) x E F) (hS' : TrS kd s (trV kd (fun i k => f (b + i) (b + k))) x' E' F') (hb : b + s ≤ n)
    (hf : ∀ i k, f i k < 18446744073709551616) (hx : ∀ p, p < s → Is (x' p) (E (b + p) (tsT kd n b s))) : ∀ p, p < s → Is (F' p) (F (b + p)) := by
  have hc : ∀ p, p < s → trC kd n (b + p) = tsT kd n b s + trC kd s p := fun p hp => by
    unfold trC tsT
    rcases hk with rfl | rfl <;> simp <;> omega
  have ho : ∀ p, p < s → ∀ t, t < trC kd s p → trO kd n (b + p) (tsT kd n b s + t) = b + trO kd s p t := fun p hp t ht => by
    unfold trC at ht
    unfold trO tsT
    rcases hk with rfl | rfl <;> simp at * <;> omega
  have hk4 : kd = 1 ∨ kd = 2 ∨ kd = 3 ∨ kd = 4 := by rcases hk with h | h <;> simp [h]
  have key : ∀ r p, p < s → trC kd s p ≤ r → Is (F' p) (F (b + p)) := by
    intro r
    induction r with
    | zero =>
      intro p hp hr
      rw [hS'.last p hp, hS.last (b + p) (by omega), hc p hp, show trC kd s p = 0 by omega]
      have h0 := hx p hp
      rw [← hS'.zero p hp] at h0
      unfold trD
      split
      · exact fbin_is h0 (Is.refl (by rw [trV_sub hk]; exact trV_ltA hf) |>.trans_eqA (trV_sub hk f b p p))
      · exact h0
    | succ r ih =>
      intro p hp hr
      have hE : ∀ t, t ≤ trC kd s p → Is (E' p t) (E (b + p) (tsT kd n b s + t)) := by
        intro t
        induction t with
        | zero => intro _; rw [hS'.zero p hp]; exact hx p hp
        | succ t iht =>
          intro ht
          have h1 := hS'.step p hp t (by omega)
          have h2 := hS.step (b + p) (by omega) (tsT kd n b s + t) (by rw [hc p hp]; omega)
          rw [ho p hp t (by omega)] at h2
          obtain ⟨h3, h4⟩ := trO_early hk4 hp (show t < trC kd s p by omega)
          rw [h1, ← Nat.add_assoc, h2, trV_sub hk]
          exact fbin_is (iht (by omega)) (fbin_is (Is.refl (trV_ltA hf)) (ih _ h3 (by omega)))
      rw [hS'.last p hp, hS.last (b + p) (by omega), hc p hp]
      unfold trD
      split
      · rw [trV_sub hk]
        exact fbin_is (hE _ (Nat.le_refl _)) (Is.refl (trV_ltA hf))
      · exact hE _ (Nat.le_refl _)
  exact fun p hp => key _ p hp (Nat.le_refl _)
/-- Taking a block's products off, lower. -/
theorem ts_low (hS : TrS 1 n (trV 1 f) x E F) {b s i : Nat} (h : b + s ≤ i) (hi : i < n) : ∀ t, t ≤ s → trE (fun k => f i (b + k)) (E i b) id (fun k => F (b + k)) t = E i (b + t)
  | 0, _ => rfl
  | t + 1, ht => by
    have h1 := hS.step i hi (b + t) (by unfold trC; simp; omega)
    show fbin .sub (trE _ _ id _ t) (fbin .mul (f i (b + t)) (F (b + t))) = E i (b + t + 1)
    rw [ts_low hS h hi t (by omega), h1]
    have e1 : trO 1 n i (b + t) = b + t := rfl
    have e2 : trV 1 f i (b + t) = f i (b + t) := by unfold trV; rw [if_pos rfl, if_neg (by omega)]
    rw [e1, e2]
/-- Taking one column's products off, upper. -/
theorem ts_up (hS : TrS 2 n (trV 2 f) x E F) {k i : Nat} (h : i < k) (hk : k < n) : trE (fun q => f i (k + q)) (E i (n - (k + 1))) id (fun q => F (k + q)) 1 = E i (n - k) := by
  have h1 := hS.step i (by omega) (n - (k + 1)) (by unfold trC; simp; omega)
  have e1 : trO 2 n i (n - (k + 1)) = k := by unfold trO; simp; omega
  have e2 : trV 2 f i k = f i k := rfl
  rw [e1, e2, show n - (k + 1) + 1 = n - k by omega] at h1
  exact h1.symm
/-- What a column's numbers are when the blocks below b (kind 1), from b on (kind 2), are done. -/
def tsY (kd n : Nat) (E : Nat → Nat → Nat) (F : Nat → Nat) (b p : Nat) : Nat := if kd = 1 then E p (min p b) else if b ≤ p then F p else E p (n - b)
/-- Where one begins, where one ends. -/
def ts0 (kd n : Nat) : Nat := if kd = 1 then 0 else n
def ts9 (kd n : Nat) : Nat := if kd = 1 then n else 0
theorem tsY_zero {kd : Nat} (hk : kd = 1 ∨ kd = 2) (hS : TrS kd n (trV kd f) x E F) {p : Nat} (hp : p < n) : tsY kd n E F (ts0 kd n) p = x p := by
  rcases hk with rfl | rfl
  · show E p (min p 0) = _
    rw [show min p 0 = 0 by omega, hS.zero p hp]
  · show (if n ≤ p then F p else E p (n - n)) = _
    rw [if_neg (by omega), Nat.sub_self, hS.zero p hp]
theorem tsY_end {kd : Nat} (hk : kd = 1 ∨ kd = 2) (hS : TrS kd n (trV kd f) x E F) {p : Nat} (hp : p < n) : tsY kd n E F (ts9 kd n) p = F p := by
  rcases hk with rfl | rfl
  · show E p (min p n) = _
    exact trZ1_end hS hp
  · show (if 0 ≤ p then F p else E p (n - 0)) = _
    rw [if_pos (Nat.zero_le _)]
/-- The bound ahead of a block, and behind it. -/
def tsA (kd b s : Nat) : Nat := if kd = 1 then b else b + s
def tsB (kd b s : Nat) : Nat := if kd = 1 then b + s else b
/-- Ahead of a block its own numbers have lost what they must. -/
theorem tsY_at {kd : Nat} (hk : kd = 1 ∨ kd = 2) {b s p : Nat} (hp : p < s) : tsY kd n E F (tsA kd b s) (b + p) = E (b + p) (tsT kd n b s) := by
  rcases hk with rfl | rfl
  · show E (b + p) (min (b + p) b) = E (b + p) b
    rw [show min (b + p) b = b by omega]
  · show (if b + s ≤ b + p then F (b + p) else E (b + p) (n - (b + s))) = E (b + p) (n - (b + s))
    rw [if_neg (by omega)]
/-- A block solved, its products not yet taken off; of kind 2: those of the columns from k on. -/
def tsM (kd n : Nat) (E : Nat → Nat → Nat) (F : Nat → Nat) (b s k p : Nat) : Nat := if b ≤ p ∧ p < b + s then F p else if kd = 1 then E p (min p b) else if b ≤ p then F p else E p (n - k)
theorem tsM_solved {kd : Nat} (hk : kd = 1 ∨ kd = 2) {b s p : Nat} : (if b ≤ p ∧ p < b + s then F p else tsY kd n E F (tsA kd b s) p) = tsM kd n E F b s (b + s) p := by
  unfold tsM
  by_cases h : b ≤ p ∧ p < b + s
  · rw [if_pos h, if_pos h]
  · rw [if_neg h, if_neg h]
    rcases hk with rfl | rfl
    · rfl
    · show (if b + s ≤ p then F p else E p (n - (b + s))) = (if b ≤ p then F p else E p (n - (b + s)))
      by_cases h2 : b + s ≤ p
      · rw [if_pos h2, if_pos (by omega)]
      · rw [if_neg h2, if_neg (by omega)]
theorem tsM_low (hS : TrS 1 n (trV 1 f) x E F) {b s p : Nat} (hp : p < n) : (if b + s ≤ p ∧ p < b + s + (n - (b + s)) then trE (fun k => f p (b + k)) (tsM 1 n E F b s (b + s) p) id (fun k => tsM 1 n E F b s (b + s) (b + k)) s else tsM 1 n E F b s (b + s) p) = tsY 1 n E F (tsB 1 b s) p := by
  show _ = E p (min p (b + s))
  by_cases h : b + s ≤ p
  · rw [if_pos (by omega)]
    have e1 : tsM 1 n E F b s (b + s) p = E p b := by unfold tsM; rw [if_neg (by omega), if_pos rfl, show min p b = b by omega]
    rw [e1, show min p (b + s) = b + s by omega, ← ts_low hS h hp s (Nat.le_refl _)]
    exact trE_congr fun q hq => by
      show tsM 1 n E F b s (b + s) (b + q) = F (b + q)
      unfold tsM
      rw [if_pos (by omega)]
  · rw [if_neg (by omega)]
    unfold tsM
    by_cases h2 : b ≤ p
    · rw [if_pos (by omega), hS.last p hp, show min p (b + s) = p by omega]
      rfl
    · rw [if_neg (by omega), if_pos rfl, show min p b = p by omega, show min p (b + s) = p by omega]
theorem tsM_up (hS : TrS 2 n (trV 2 f) x E F) {b s k p : Nat} (hp : p < n) (hk : b ≤ k) (hk2 : k < b + s) (hkn : k < n) : (if 0 ≤ p ∧ p < 0 + b then trE (fun q => f p (k + q)) (tsM 2 n E F b s (k + 1) p) id (fun q => tsM 2 n E F b s (k + 1) (k + q)) 1 else tsM 2 n E F b s (k + 1) p) = tsM 2 n E F b s k p := by
  have e0 : ∀ k, tsM 2 n E F b s k p = if b ≤ p then F p else E p (n - k) := fun k => by
    unfold tsM
    by_cases h : b ≤ p ∧ p < b + s
    · rw [if_pos h, if_pos h.1]
    · rw [if_neg h, if_neg (by omega)]
  rw [e0, e0]
  by_cases h : b ≤ p
  · rw [if_neg (by omega), if_pos h, if_pos h]
  · rw [if_pos (by omega), if_neg h, if_neg h, ← ts_up hS (show p < k by omega) hkn]
    exact trE_congr fun q hq => by
      obtain rfl : q = 0 := by omega
      show tsM 2 n E F b s (k + 1) (k + 0) = F (k + 0)
      unfold tsM
      rw [if_pos (by omega)]
theorem tsM_done {b s p : Nat} : tsM 2 n E F b s b p = tsY 2 n E F (tsB 2 b s) p := by
  show tsM 2 n E F b s b p = if b ≤ p then F p else E p (n - b)
  unfold tsM
  by_cases h : b ≤ p ∧ p < b + s
  · rw [if_pos h, if_pos h.1]
  · rw [if_neg h, if_neg (by omega)]
end
end Go.Proofs.Ytcdhpoikppfjkaa
