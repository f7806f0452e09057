/-
Panels: At, whole; slices.Clone of floats. Conditions: the lists have fewer than 2^20 numbers.
-/
import Derived.Test.YtbjopdnfjjcpoaaZVwI
import Derived.BigQuiet
set_option linter.unusedVariables false
set_option linter.unusedSimpArgs false
namespace Go.Proofs.Ytbjopdnfjjcpoaa
open Go.RowKit
attribute [local go_sem ↓] Go.wp_at_zero Go.wp_at_succ

/-- A panel. -/
def pnl (r k : Int) (A : Option Addr) (n c : Nat) : Value := .agg #[.int .i64 r, .int .i64 k, .slice A n c]
/-- Has the list the place? -/
def prB (n : Nat) (i j k : Int) : Bool := decide (j < (n : Int)) && decide (i ≤ ((n : Int) - 1 - j) / k)
theorem prB_iff {n : Nat} {i j k : Int} (hk : 1 ≤ k) (hj : 0 ≤ j) (hi : 0 ≤ i) : prB n i j k = true ↔ i * k + j < (n : Int) := by
  unfold prB
  rw [Bool.and_eq_true, decide_eq_true_eq, decide_eq_true_eq, Int.le_ediv_iff_mul_le (by omega)]
  have : 0 ≤ i * k := Int.mul_nonneg hi (by omega)
  constructor
  · rintro ⟨h1, h2⟩; omega
  · intro h; exact ⟨by omega, by omega⟩
theorem preaches_any (r k i j : Int) (A : Option Addr) (n c : Nat) (w : World) (hn : n < 1048576) (hk : 1 ≤ k ∧ k < 9223372036854775808) (hj : 0 ≤ j ∧ j < 9223372036854775808) :
    Calls Try.prog 31 #[pnl r k A n c, .int .i64 i, .int .i64 j] w fun e w' => e = .returned (.bool (prB n i j k)) ∧ Below w.heap.size w w' := by
  have HB := Lib.hid ((Below.refl w.heap.size w).alloc (Nat.le_refl _) (.cells #[.int .i64 r, .int .i64 k, .slice A n c] 28))
  unfold prB pnl
  by_cases h1 : j < (n : Int)
  · have d1 : decide (j < (n : Int)) = true := decide_eq_true h1
    have e0 : (k == 0) = false := by simp; omega
    have e00 : ¬ k = 0 := by omega
    have e1 : wrap64 ((n : Int) - 1) = (n : Int) - 1 := by unfold wrap64; omega
    have e3 : wrap64 ((n : Int) - 1 - j) = (n : Int) - 1 - j := by unfold wrap64; omega
    have e5 : Int.tdiv ((n : Int) - 1 - j) k = ((n : Int) - 1 - j) / k := Int.tdiv_eq_ediv_of_nonneg (by omega)
    have b1 : 0 ≤ ((n : Int) - 1 - j) / k := Int.ediv_nonneg (by omega) (by omega)
    have b2 : ((n : Int) - 1 - j) / k ≤ (n : Int) - 1 - j := Int.ediv_le_self _ (by omega)
    have e6 : IntKind.i64.wrap (((n : Int) - 1 - j) / k) = ((n : Int) - 1 - j) / k := wrapi (by omega) (by omega)
    rw [d1, Bool.true_and]
    obtain ⟨Z, hZ⟩ : ∃ Z, ((n : Int) - 1 - j) / k = Z := ⟨_, rfl⟩
    rw [hZ] at e5 e6
    rw [hZ]
    have e7 : IntKind.i64.wrap ((n : Int) - 1) = (n : Int) - 1 := wrapi (by omega) (by omega)
    have e8 : IntKind.i64.wrap ((n : Int) - 1 - j) = (n : Int) - 1 - j := wrapi (by omega) (by omega)
    clear hZ b1 b2 hn hk hj
    go_enter Try.func31, Try.ntmps31
    obtain ⟨c0, c1, c2⟩ := cells3v (Blk.new w 28 #[.int .i64 r, .int .i64 k, .slice A n c])
    go_wp2_with fail
    go_ret
    exact ⟨rfl, HB.out⟩
  · have d1 : decide (j < (n : Int)) = false := decide_eq_false h1
    rw [d1, Bool.false_and]
    clear hn hk hj
    go_enter Try.func31, Try.ntmps31
    obtain ⟨c0, c1, c2⟩ := cells3v (Blk.new w 28 #[.int .i64 r, .int .i64 k, .slice A n c])
    go_wp2_with fail
    go_ret
    exact ⟨rfl, HB.out⟩

/-- Has the panel the number? -/
def tpB (r k : Int) (n : Nat) (i j : Int) : Bool := decide (0 ≤ i) && decide (i < r) && decide (0 ≤ j) && decide (j < k) && decide (i * k + j < (n : Int))
theorem pat_no (r k i j : Int) (A : Option Addr) (n c : Nat) (w : World) (hn : n < 1048576) (hk : I64 k) (hj : I64 j) (h : tpB r k n i j = false) :
    Calls Try.prog 16 #[pnl r k A n c, .int .i64 i, .int .i64 j] w fun e w' => e = .returned (.float .f64 0) ∧ Below w.heap.size w w' := by
  have HB := Lib.hid ((Below.refl w.heap.size w).alloc (Nat.le_refl _) (.cells #[.int .i64 r, .int .i64 k, .slice A n c] 28))
  obtain ⟨c0, c1, c2⟩ := cells3v (Blk.new w 28 #[.int .i64 r, .int .i64 k, .slice A n c])
  by_cases h1 : i < 0
  · clear h hn hk hj
    unfold pnl
    go_enter Try.func16, Try.ntmps16
    go_wp2_with fail
    go_ret
    exact ⟨rfl, HB.out⟩
  by_cases h2 : r ≤ i
  · clear h hn hk hj
    unfold pnl
    go_enter Try.func16, Try.ntmps16
    go_wp2_with fail
    go_ret
    exact ⟨rfl, HB.out⟩
  by_cases h3 : j < 0
  · clear h hn hk hj
    unfold pnl
    go_enter Try.func16, Try.ntmps16
    go_wp2_with fail
    go_ret
    exact ⟨rfl, HB.out⟩
  by_cases h4 : k ≤ j
  · clear h hn hk hj
    unfold pnl
    go_enter Try.func16, Try.ntmps16
    go_wp2_with fail
    go_ret
    exact ⟨rfl, HB.out⟩
  have h5 : prB n i j k = false := by
    rw [Bool.eq_false_iff, Ne, prB_iff (by omega) (by omega) (by omega)]
    intro h6
    unfold tpB at h
    simp at h
    have := h (by omega) (by omega) (by omega) (by omega)
    omega
  have HR := Lib.hid (fun W => preaches_any r k i j A n c W hn ⟨by omega, hk.2⟩ ⟨by omega, hj.2⟩)
  rw [h5] at HR
  clear h hn hk hj h5
  unfold pnl at *
  go_enter Try.func16, Try.ntmps16
  go_wp2_with fail
  refine (HR.out _).mono ?_
  rintro e w1 ⟨rfl, hb⟩
  have HB2 := Lib.hid (below_nx HB.out hb)
  clear hb c0 c1 c2
  go_wp2_with fail
  go_ret
  exact ⟨rfl, HB2.out⟩
theorem pat_yes (r k i j : Int) (A : Option Addr) (n c : Nat) (D : List Nat) (w : World) (hA : Row w A (f64s D)) (hl : D.length = n) (hn : n < 1048576) (hk : I64 k) (hj : I64 j) (h : tpB r k n i j = true) :
    Calls Try.prog 16 #[pnl r k A n c, .int .i64 i, .int .i64 j] w fun e w' => e = .returned (.float .f64 (D.getD (i * k + j).toNat 0)) ∧ Below w.heap.size w w' := by
  have HB := Lib.hid ((Below.refl w.heap.size w).alloc (Nat.le_refl _) (.cells #[.int .i64 r, .int .i64 k, .slice A n c] 28))
  have HZ := Lib.hid (Blk.new w 28 #[.int .i64 r, .int .i64 k, .slice A n c])
  unfold tpB at h
  simp only [Bool.and_eq_true, decide_eq_true_eq] at h
  obtain ⟨⟨⟨⟨q1, q2⟩, q3⟩, q4⟩, q5⟩ := h
  have h1 : ¬ i < 0 := by omega
  have h2 : ¬ r ≤ i := by omega
  have h3 : ¬ j < 0 := by omega
  have h4 : ¬ k ≤ j := by omega
  have h5 : prB n i j k = true := (prB_iff (by omega) q3 q1).2 q5
  have HR := Lib.hid (fun W => preaches_any r k i j A n c W hn ⟨by omega, hk.2⟩ ⟨by omega, hj.2⟩)
  rw [h5] at HR
  have hm : 0 ≤ i * k := Int.mul_nonneg q1 (by omega)
  obtain ⟨p, hp⟩ : ∃ p : Nat, i * k + j = (p : Int) := ⟨(i * k + j).toNat, by omega⟩
  have hpn : p < D.length := by omega
  obtain ⟨b, o, rfl, hblt, hcell0⟩ := hA.at_ (f64s_get D p hpn)
  have e0 : (i * k + j).toNat = p := by omega
  have e1 : IntKind.i64.wrap (i * k) = i * k := wrapi (by omega) (by omega)
  have e2 : IntKind.i64.wrap (i * k + j) = (p : Int) := by rw [hp]; exact wrapi (by omega) (by omega)
  have hpn2 : (p : Int) < (n : Int) := by omega
  have e3 : D.getD p 0 = D[p] := by rw [List.getD_eq_getElem?_getD, List.getElem?_eq_getElem hpn]; rfl
  rw [e0, e3]
  generalize D[p] = x at *
  have HC := Lib.hid hcell0
  obtain ⟨c0, c1, c2⟩ := cells3v HZ.out
  clear hn hk hj h5 hm hp hpn e0 e3 hcell0 q1 q2 q3 q4 q5 hA hl hblt
  unfold pnl at *
  go_enter Try.func16, Try.ntmps16
  go_wp2_with fail
  refine (HR.out _).mono ?_
  rintro e w1 ⟨rfl, hb⟩
  have HB2 := Lib.hid (below_nx HB.out hb)
  have HZ2 := Lib.hid (HZ.out.nxt hb)
  have hc := cell_below HC.out HB2.out
  clear hb c0 c1 c2
  obtain ⟨c0, c1, c2⟩ := cells3v HZ2.out
  go_wp2_with fail
  go_ret
  exact ⟨rfl, HB2.out⟩
/-- Is the list just as long as the panel asks? -/
def whB (r k : Int) (n : Nat) : Bool := decide (0 ≤ r) && decide (0 ≤ k) && decide ((n : Int) = r * k)
theorem wh_facts {n k : Nat} (hk : 1 ≤ k) (hn : n < 1048576) : ∃ q m : Nat, q = n % k ∧ m = n / k ∧ (n : Int).tmod (k : Int) = (q : Int) ∧ (n : Int).tdiv (k : Int) = (m : Int) ∧ (((k : Int) == 0) = false ∧ (k == 0) = false ∧ ¬ k = 0 ∧ ¬ (k : Int) = 0) ∧ IntKind.i64.wrap (q : Int) = (q : Int) ∧ IntKind.i64.wrap (m : Int) = (m : Int) := by
  have hq : n % k < 1048576 := Nat.lt_of_le_of_lt (Nat.mod_le _ _) hn
  have hm : n / k < 1048576 := Nat.lt_of_le_of_lt (Nat.div_le_self _ _) hn
  have e1 : (n : Int).tmod (k : Int) = ((n % k : Nat) : Int) := by rw [Int.tmod_eq_emod_of_nonneg (by omega)]; rfl
  have e2 : (n : Int).tdiv (k : Int) = ((n / k : Nat) : Int) := by rw [Int.tdiv_eq_ediv_of_nonneg (by omega)]; rfl
  obtain ⟨q, hq0⟩ : ∃ q, n % k = q := ⟨_, rfl⟩
  obtain ⟨m, hm0⟩ : ∃ m, n / k = m := ⟨_, rfl⟩
  rw [hq0] at hq e1 ⊢
  rw [hm0] at hm e2 ⊢
  refine ⟨q, m, rfl, rfl, e1, e2, ?_, wrapi (by omega) (by omega), wrapi (by omega) (by omega)⟩
  · refine ⟨?_, ?_, ?_, ?_⟩ <;> (try simp) <;> omega
theorem whB_div {r : Int} {n k : Nat} (hr : 0 ≤ r) (hk : 1 ≤ k) : whB r k n = (decide (n % k = 0) && (((n / k : Nat) : Int) == r)) := by
  unfold whB
  rw [show decide (0 ≤ r) = true from decide_eq_true hr, show decide ((0 : Int) ≤ (k : Int)) = true from decide_eq_true (by omega), Bool.true_and, Bool.true_and, Bool.eq_iff_iff]
  simp only [decide_eq_true_eq, Bool.and_eq_true, beq_iff_eq]
  obtain ⟨R, rfl⟩ : ∃ R : Nat, r = R := ⟨r.toNat, by omega⟩
  constructor
  · intro h
    have h2 : n = R * k := by exact_mod_cast h
    rw [h2]
    exact ⟨Nat.mul_mod_left _ _, by rw [Nat.mul_div_cancel _ (by omega)]⟩
  · rintro ⟨h1, h2⟩
    have h3 : n / k = R := by omega
    have h4 : n = R * k := by rw [← h3, Nat.div_mul_cancel (Nat.dvd_of_mod_eq_zero h1)]
    rw [h4]; simp
theorem pwhole_any (r k : Int) (A : Option Addr) (n c : Nat) (w : World) (hn : n < 1048576) (hk : I64 k) :
    Calls Try.prog 28 #[pnl r k A n c] w fun e w' => e = .returned (.bool (whB r k n)) ∧ Below w.heap.size w w' := by
  have HB := Lib.hid ((Below.refl w.heap.size w).alloc (Nat.le_refl _) (.cells #[.int .i64 r, .int .i64 k, .slice A n c] 28))
  obtain ⟨c0, c1, c2⟩ := cells3v (Blk.new w 28 #[.int .i64 r, .int .i64 k, .slice A n c])
  by_cases h1 : r < 0
  · have e : whB r k n = false := by
      unfold whB
      rw [show decide (0 ≤ r) = false from decide_eq_false (by omega)]; rfl
    rw [e]
    clear e hn hk
    unfold pnl
    go_enter Try.func28, Try.ntmps28
    go_wp2_with fail
    go_ret
    exact ⟨rfl, HB.out⟩
  by_cases h2 : k < 0
  · have e : whB r k n = false := by
      unfold whB
      rw [show decide (0 ≤ k) = false from decide_eq_false (by omega), Bool.and_false]; rfl
    rw [e]
    clear e hn hk
    unfold pnl
    go_enter Try.func28, Try.ntmps28
    go_wp2_with fail
    go_ret
    exact ⟨rfl, HB.out⟩
  obtain ⟨K, rfl⟩ : ∃ K : Nat, k = K := ⟨k.toNat, by omega⟩
  by_cases h3 : K = 0
  · subst h3
    have e : whB r ((0 : Nat) : Int) n = decide (n = 0) := by
      unfold whB
      rw [show decide (0 ≤ r) = true from decide_eq_true (by omega)]
      simp
    rw [e]
    clear e hk h2
    by_cases h4 : n = 0
    · subst h4
      unfold pnl
      go_enter Try.func28, Try.ntmps28
      go_wp2_with fail
      go_ret
      exact ⟨rfl, HB.out⟩
    · have h5 : ((n : Int) == 0) = false := by simp; omega
      have h6 : decide (n = 0) = false := by simp; omega
      rw [h6]
      unfold pnl
      go_enter Try.func28, Try.ntmps28
      go_wp2_with fail
      go_ret
      exact ⟨rfl, HB.out⟩
  obtain ⟨q, m, hq, hm, f1, f2, ⟨f3, f4, f5, f6⟩, f7, f8⟩ := wh_facts (k := K) (by omega) hn
  have e : whB r (K : Int) n = (decide (q = 0) && ((m : Int) == r)) := by rw [whB_div (by omega) (by omega), ← hq, ← hm]
  rw [e]
  clear e hq hm hn hk h3
  by_cases h4 : q = 0
  · subst h4
    obtain ⟨b, hb⟩ : ∃ b, ((m : Int) == r) = b := ⟨_, rfl⟩
    rw [hb]
    unfold pnl
    go_enter Try.func28, Try.ntmps28
    go_wp2_with fail
    go_quiet (fail)
    go_wp2_with fail
    go_ret
    exact ⟨by simp, below_drewN HB.out _⟩
  · have h5 : ((q : Int) == 0) = false := by simp; omega
    have h6 : decide (q = 0) = false := by simp; omega
    rw [h6, Bool.false_and]
    unfold pnl
    go_enter Try.func28, Try.ntmps28
    go_wp2_with fail
    go_quiet (fail)
    go_wp2_with fail
    go_ret
    exact ⟨rfl, below_drewN HB.out _⟩
end Go.Proofs.Ytbjopdnfjjcpoaa
