/-
Whole numbers: trim, wholeOf, sign. Conditions: as each says.
-/
import Derived.Test.YtlhdcajamempoaaZMem
import Derived.WalkLawsBesides
import Derived.WalkSpells
import Derived.LoopTactic
import Derived.Outline
import Derived.Deep.QuietTactic
import Derived.BigQuiet
import Derived.RegionTactic
import Derived.Test.YtlhdcajamempoaaRows
import Derived.WalkKit
import Derived.Lib.BitFns
import Derived.Deep.RegionHeld3
import Derived.Deep.DrawnRows
import Derived.Test.YtlhdcajamempoaaSac
set_option linter.unusedVariables false
namespace Go.Proofs.Ytlhdcajamempoaa
open Go.RowKit

theorem sign_val {z : Int} {n : Nat} (hn : n = wl z) {s : Int} (h : (s = 0 ∧ ((n : Int) == 0) = true) ∨ (((n : Int) == 0) = false ∧ ng z = true ∧ s = -1) ∨ (((n : Int) == 0) = false ∧ ng z = false ∧ s = 1)) : s = z.sign := by
  have h0 := wl_zero z
  rcases h with ⟨rfl, h⟩ | ⟨h, hz, rfl⟩ | ⟨h, hz, rfl⟩
  · have : z = 0 := h0.1 (by simp at h; omega)
    subst this; rfl
  · have : z < 0 := by simpa [ng] using hz
    exact (Int.sign_eq_neg_one_of_neg this).symm
  · have h1 : ¬ z < 0 := by simpa [ng] using hz
    have h2 : ¬ z = 0 := fun e => by have := h0.2 e; simp at h; omega
    exact (Int.sign_eq_one_of_pos (by omega)).symm
theorem ret_i {a b : Int} {k : IntKind} (h : a = b) : Ending.returned (.int k a) = .returned (.int k b) := by rw [h]

/-- How many digits are left. -/
def tl (l : List Nat) : Nat := (digs Q (ofd Q l)).length
theorem tl_take {l : List Nat} (h : Digs Q l) (k : Nat) (hk : k ≤ l.length) (hz : ∀ i, k ≤ i → i < l.length → l.getD i 0 = 0) (hl : k = 0 ∨ l.getD (k - 1) 0 ≠ 0) : tl l = k ∧ l.take k = digs Q (ofd Q l) := by
  have e := take_trim Q_two h k hk hz hl
  refine ⟨?_, e⟩
  unfold tl
  rw [← e, List.length_take]; omega
theorem getD_of {l : List Nat} {i : Nat} (h : i < l.length) : l.getD i 0 = l[i] := by simp [List.getD, h]

theorem row_take {w : World} {A : Option Addr} {l : List Nat} (h : Row w A (u64s l)) (k : Nat) : Row w A (u64s (l.take k)) := by
  rcases h with h | ⟨b, o, e, hc⟩
  · refine .inl ?_
    have : l = [] := by simpa [u64s] using h
    subst this; simp [u64s]
  · refine .inr ⟨b, o, e, fun i v hi => hc i v ?_⟩
    obtain ⟨hl, hv⟩ := u64s_get? hi
    rw [List.length_take] at hl
    rw [u64s_get l i (by omega), hv]
    simp
theorem tl_eq {l : List Nat} (h : Digs Q l) : l.take (tl l) = digs Q (ofd Q l) := by
  have hs := ofd_take_drop Q l
  -- the place behind the last digit that isn't 0
  have hex : ∃ k, k ≤ l.length ∧ (∀ i, k ≤ i → i < l.length → l.getD i 0 = 0) ∧ (k = 0 ∨ l.getD (k - 1) 0 ≠ 0) := by
    have : ∀ m, m ≤ l.length → (∀ i, m ≤ i → i < l.length → l.getD i 0 = 0) → ∃ k, k ≤ l.length ∧ (∀ i, k ≤ i → i < l.length → l.getD i 0 = 0) ∧ (k = 0 ∨ l.getD (k - 1) 0 ≠ 0) := by
      intro m
      induction m with
      | zero => intro _ hz; exact ⟨0, Nat.zero_le _, hz, .inl rfl⟩
      | succ m ih =>
        intro hm hz
        by_cases h0 : l.getD m 0 = 0
        · exact ih (by omega) (fun i h1 h2 => by
            by_cases e : i = m
            · subst e; exact h0
            · exact hz i (by omega) h2)
        · exact ⟨m + 1, hm, hz, .inr (by simpa using h0)⟩
    exact this l.length (Nat.le_refl _) (fun i h1 h2 => by omega)
  obtain ⟨k, h1, h2, h3⟩ := hex
  obtain ⟨e1, e2⟩ := tl_take h k h1 h2 h3
  rw [e1, e2]
/-- What trim left is the number's size. -/
theorem Wh.trimmed {w : World} {A : Option Addr} {l : List Nat} {z : Int} (h : Digs Q l) (hr : Row w A (u64s l)) (hz : ofd Q l = z.natAbs) : Wh w A (tl l) (tl l) z := by
  refine ⟨?_, Nat.le_refl _, ?_⟩
  · unfold tl wl dig; rw [hz]
  · have := row_take hr (tl l)
    rw [tl_eq h, hz] at this
    exact this
end Go.Proofs.Ytlhdcajamempoaa
/-
math/bits.Len64 comes to the number of binary digits. Conditions: the number is a uint64.
-/
namespace Go.Proofs.Ytlhdcajamempoaa
open Go.RowKit

theorem len8_get (i : Nat) (h : i < Lib.len8tab.size) : ((Lib.len8tab[i].toNat : Nat) : Int) = (Lib.bitLen i : Int) := by
  have hs := Lib.len8tab_size
  have e := Lib.len8_eq ⟨i, by omega⟩
  unfold Lib.len8 at e
  simp only [Int.toNat_natCast] at e
  rw [← e]
  simp [h]
theorem len8_le (i : Nat) (h : i < 256) : Lib.bitLen i ≤ 8 := Lib.bitLen_le8 ⟨i, h⟩
theorem wrap_len (i : Nat) (h : i < Lib.len8tab.size) : wrap64 ((Lib.len8tab[i].toNat : Nat) : Int) = (Lib.bitLen i : Int) := by
  have hs := Lib.len8tab_size
  rw [len8_get i h]
  have := len8_le i (by omega)
  exact IntWalk.wrap64_in _ ⟨by omega, by omega⟩
theorem len_c (c : Int) (i : Nat) (h : i < Lib.len8tab.size) (X : Nat) (hc : 0 ≤ c ∧ c ≤ 56) (hX : (Lib.bitLen X : Int) = c + (Lib.bitLen i : Int)) :
    wrap64 (c + wrap64 ((Lib.len8tab[i].toNat : Nat) : Int)) = (Lib.bitLen X : Int) := by
  have hs := Lib.len8tab_size
  have := len8_le i (by omega)
  rw [wrap_len i h, hX]
  exact IntWalk.wrap64_in _ ⟨by omega, by omega⟩
theorem len_0 (i : Nat) (h : i < Lib.len8tab.size) : wrap64 (wrap64 ((Lib.len8tab[i].toNat : Nat) : Int)) = (Lib.bitLen i : Int) := by
  have hs := Lib.len8tab_size
  have := len8_le i (by omega)
  rw [wrap_len i h]
  exact IntWalk.wrap64_in _ ⟨by omega, by omega⟩

end Go.Proofs.Ytlhdcajamempoaa
/-
Whole numbers: wholeOf, width, window, minus. Conditions: as each says.
-/
set_option linter.unusedVariables false
namespace Go.Proofs.Ytlhdcajamempoaa
open Go.RowKit
attribute [local go_sem ↓] Go.wp_at_zero Go.wp_at_succ

theorem bcell {W w1 : World} (hb : Below W.heap.size W w1) : (∀ b o, b < W.heap.size → w1.cell? ⟨b, o, none⟩ = W.cell? ⟨b, o, none⟩) ∧ (∀ b o, b < W.heap.size → w1.frozen? ⟨b, o, none⟩ = W.frozen? ⟨b, o, none⟩) :=
  ⟨fun b o h => hb.cell (p := ⟨b, o, none⟩) h, fun b o h => hb.frozen (p := ⟨b, o, none⟩) h⟩

theorem abs_word (k : Int) (h0 : -9223372036854775808 ≤ k) (h1 : k ≤ 9223372036854775807) :
    (k < 0 → IntKind.u64.wrap (-IntKind.u64.wrap k) = (k.natAbs : Int)) ∧ (¬ k < 0 → IntKind.u64.wrap k = (k.natAbs : Int)) := by
  constructor <;> intro h <;> simp only [IntKind.wrap_u64] <;> omega
theorem one_word (k : Int) (h0 : -9223372036854775808 ≤ k) (h1 : k ≤ 9223372036854775807) : Digs Q [k.natAbs] ∧ ofd Q [k.natAbs] = k.natAbs := by
  refine ⟨Digs.cons ?_ (Digs.nil _), by simp [ofd]⟩
  rw [Q_val]; omega
theorem row_new (w : World) (t : TypeId) (l : List Nat) (g : Nat) (hg : w.heap.size = g) : Row (w.alloc (.cells (u64s l).toArray t)) (some ⟨g, 0, none⟩) (u64s l) := by
  subst hg
  refine .inr ⟨_, _, rfl, fun i v hi => ?_⟩
  rw [Nat.zero_add, (Blk.new w t _).cell i]
  simpa using hi
theorem u64s_one (m : Nat) : (u64s [m]).toArray = #[.int .u64 (m : Int)] := rfl
theorem ret_agg2 {a a' : Bool} {A A' : Option Addr} {n n' c c' : Nat} (h1 : a = a') (h2 : A = A') (h3 : n = n') (h4 : c = c') :
    Ending.returned (.agg #[.bool a, .slice A n c]) = .returned (.agg #[.bool a', .slice A' n' c']) := by rw [h1, h2, h3, h4]

theorem RetW.mk_ {z : Int} {w w' : World} {a : Bool} {A : Option Addr} {n c : Nat} (ha : a = ng z) (h : Wh w' A n c z) (hb : Below w.heap.size w w') : RetW z w (.returned (.agg #[.bool a, .slice A n c])) w' := by
  subst ha; exact ⟨A, n, c, rfl, h, hb⟩

theorem ng_neg (z : Int) : decide (0 < z) = ng (-z) := by unfold ng; congr 1; rw [eq_iff_iff]; omega

end Go.Proofs.Ytlhdcajamempoaa
/-
What digits, cut and join come to. Conditions: as each says.
-/
set_option linter.unusedVariables false
namespace Go.Proofs.Ytlhdcajamempoaa
open Go.RowKit
attribute [local go_sem ↓] ib_andNot_sign ib_and_frac ib_and_15 ib_and_1 ib_and_sign ib_and_inf ib_or

theorem bitLen_log (x : Nat) (h0 : x ≠ 0) (h : x < 18446744073709551616) : Lib.bitLen x = x.log2 + 1 := by
  induction x using Nat.strongRecOn with
  | ind x ih =>
    rw [Lib.bitLen_half x h0 h, Nat.log2_def]
    by_cases h2 : 2 ≤ x
    · rw [if_pos h2, ih (x / 2) (by omega) (by omega) (by omega)]; omega
    · rw [if_neg h2]
      have : x = 1 := by omega
      subst this; rfl
theorem ret2_ui {a a' b b' : Int} (h1 : a = a') (h2 : b = b') : Ending.returned (.tuple #[.int .u64 a, .int .i64 b]) = .returned (.tuple #[.int .u64 a', .int .i64 b']) := by rw [h1, h2]

attribute [local go_sem ↓ low] ib_and

theorem two_pow_half (n : Nat) (hn : 1 ≤ n) : 2 ^ n = 2 * 2 ^ (n - 1) := by
  rw [show n = n - 1 + 1 by omega, Nat.pow_succ, show n - 1 + 1 - 1 = n - 1 by omega]; omega
theorem rne_half (m n : Nat) (hn : 1 ≤ n) : Fl.rne m n = m / 2 ^ n + if 2 ^ (n - 1) < m % 2 ^ n ∨ (2 ^ (n - 1) = m % 2 ^ n ∧ m / 2 ^ n % 2 = 1) then 1 else 0 := by
  unfold Fl.rne
  have h := two_pow_half n hn
  have a : 2 ^ n < 2 * (m % 2 ^ n) ↔ 2 ^ (n - 1) < m % 2 ^ n := by omega
  have b : 2 ^ n = 2 * (m % 2 ^ n) ↔ 2 ^ (n - 1) = m % 2 ^ n := by omega
  simp only [a, b]
theorem cut_eqs (m n : Nat) (hm : m < 9007199254740992) (hn : 1 ≤ n) (h : n ≤ 53) :
    andU (m : Int) (IntKind.u64.wrap (IntKind.u64.wrap (2 ^ n) - 1)) = ((m % 2 ^ n : Nat) : Int) ∧ IntKind.u64.wrap (2 ^ (n - 1)) = ((2 ^ (n - 1) : Nat) : Int) ∧ ((m : Int) / 2 ^ n) = ((m / 2 ^ n : Nat) : Int) := by
  have p1 : 2 ^ n ≤ 2 ^ 53 := Nat.pow_le_pow_right (by omega) h
  have p2 : 2 ^ (n - 1) ≤ 2 ^ 53 := Nat.pow_le_pow_right (by omega) (by omega)
  have p3 : 0 < 2 ^ n := Nat.two_pow_pos n
  have p4 : 0 < 2 ^ (n - 1) := Nat.two_pow_pos _
  have c1 : ((2 : Int) ^ n) = ((2 ^ n : Nat) : Int) := by simp
  have c2 : ((2 : Int) ^ (n - 1)) = ((2 ^ (n - 1) : Nat) : Int) := by simp
  refine ⟨?_, ?_, by rw [c1]; rfl⟩
  · rw [c1, IntKind.wrap_u64, IntKind.wrap_u64]
    rw [show (((2 ^ n : Nat) : Int) % 18446744073709551616 - 1) % 18446744073709551616 = ((2 ^ n - 1 : Nat) : Int) by omega]
    unfold andU
    rw [u64_and_nat _ _ (by omega) (by omega), and_mask]
  · rw [c2, IntKind.wrap_u64]; omega

theorem orU_shift {q r : Nat} (hq : q < 2048) (hr : r < 4503599627370496) : orU ((q : Int) * 4503599627370496) (r : Int) = ((q * 4503599627370496 + r : Nat) : Int) := by
  rw [show ((q : Int) * 4503599627370496) = ((q * 4503599627370496 : Nat) : Int) by omega]
  exact orU_nat 52 (by omega) (by omega) hr (by omega)

end Go.Proofs.Ytlhdcajamempoaa
/-
Whole numbers: width, window. Conditions: as each says.
-/
set_option linter.unusedVariables false
namespace Go.Proofs.Ytlhdcajamempoaa
open Go.RowKit
attribute [local go_sem ↓] Go.wp_at_zero Go.wp_at_succ

/-- How many binary digits a size has. -/
def bl (n : Nat) : Nat := if n = 0 then 0 else n.log2 + 1
theorem bl_bounds {n : Nat} (h : n ≠ 0) : 2 ^ (bl n - 1) ≤ n ∧ n < 2 ^ bl n := by
  unfold bl; rw [if_neg h]
  exact ⟨Nat.log2_self_le h, Nat.lt_log2_self⟩
theorem bl_unique {n k : Nat} (h1 : 2 ^ k ≤ n) (h2 : n < 2 ^ (k + 1)) : bl n = k + 1 := by
  have h0 : n ≠ 0 := by have := Nat.two_pow_pos k; omega
  unfold bl; rw [if_neg h0]
  congr 1
  exact (Nat.log2_eq_iff h0).2 ⟨h1, h2⟩
theorem last_of {z : Int} {n : Nat} (hn : n = wl z) (h0 : 0 < n) : ∃ h : n - 1 < (dig z).length, (dig z)[n - 1] ≠ 0 ∧ (dig z)[n - 1] < 18446744073709551616 ∧ z.natAbs / Q ^ (n - 1) = (dig z)[n - 1] := by
  have hl : n - 1 < (dig z).length := by unfold wl at hn; omega
  refine ⟨hl, ?_, ?_, ?_⟩
  · have := digs_last Q_two z.natAbs
    intro e
    apply this
    show (dig z).getLast? = some 0
    rw [List.getLast?_eq_getElem?, show (dig z).length - 1 = n - 1 by unfold wl at hn; omega, List.getElem?_eq_getElem hl, e]
  · exact (dig_lt z).get _ hl
  · have := ofd_drop Q_two (dig_lt z) (n - 1) (by omega)
    rw [ofd_dig] at this
    rw [← this, List.drop_eq_getElem_cons hl, List.drop_of_length_le (by unfold wl at hn; omega)]
    simp [ofd]
theorem bl_words {x n d : Nat} (hn : 0 < n) (hd : d ≠ 0) (h : x / Q ^ (n - 1) = d) (hd2 : d < 18446744073709551616) : bl x = (n - 1) * 64 + bl d := by
  obtain ⟨b1, b2⟩ := bl_bounds hd
  have hbd : 0 < bl d := by unfold bl; rw [if_neg hd]; omega
  have hp : 0 < Q ^ (n - 1) := Nat.pow_pos (by have := Q_two; omega)
  have e : Q ^ (n - 1) = 2 ^ ((n - 1) * 64) := by rw [Q_pow, ← Nat.pow_mul, Nat.mul_comm]
  rw [e] at h hp
  have := bl_unique (n := x) (k := (n - 1) * 64 + (bl d - 1)) (by
    rw [Nat.pow_add]
    have : 2 ^ ((n - 1) * 64) * 2 ^ (bl d - 1) ≤ 2 ^ ((n - 1) * 64) * d := Nat.mul_le_mul_left _ b1
    have h2 := Nat.div_mul_le_self x (2 ^ ((n - 1) * 64))
    rw [h, Nat.mul_comm] at h2
    omega) (by
    rw [show (n - 1) * 64 + (bl d - 1) + 1 = (n - 1) * 64 + bl d by omega, Nat.pow_add]
    have : 2 ^ ((n - 1) * 64) * (d + 1) ≤ 2 ^ ((n - 1) * 64) * 2 ^ bl d := Nat.mul_le_mul_left _ b2
    have h2 := Nat.lt_mul_div_succ x hp
    rw [h] at h2
    omega)
  rw [this]; omega
theorem bl_zero : bl 0 = 0 := rfl

end Go.Proofs.Ytlhdcajamempoaa
