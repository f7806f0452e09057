/-
The document's at, ends, Minus, Abs, Sign. Conditions: the places lie within 2^40.
-/
import Derived.Test.YtelpdbkkefpjhaaWSt
import Derived.BigQuiet
import Derived.Deep.QuietTactic
set_option linter.unusedVariables false
set_option linter.unusedSimpArgs false
namespace Go.Proofs.Ytelpdbkkefpjhaa
open Go.RowKit
attribute [local go_sem ↓] Go.wp_at_zero Go.wp_at_succ

/-- Stores into a block that isn't one of ints don't touch the digits. -/
theorem Rd.far {w : World} {A : Option Addr} {n c : Nat} {L : List Nat} (h : Rd w A n c L) {g : Nat} {t : TypeId} {cs : Array Value} (hB : Blk w g t cs) (ht : t ≠ 3) (i : Nat) (u : Value) : Rd (w.setCell ⟨g, i, none⟩ u) A n c L := by
  refine ⟨h.1, h.2.1, ?_, h.2.2.2.1, fun b y e hl => (h.2.2.2.2 b y e hl).set_ _ _⟩
  cases L with
  | nil => exact .inl rfl
  | cons x L =>
    rcases h.2.2.1 with h0 | ⟨b, o, e, hc⟩
    · simp [ints] at h0
    · exact .inr ⟨b, o, e, fun j v hj => (cell_set ((h.2.2.2.2 b o e (by simp)).ne hB ht) u).trans (hc j v hj)⟩
theorem iwrap_in {z : Int} (h : z.natAbs ≤ 8796093022208) : IntKind.i64.wrap z = z := IntWalk.i64_in _ (by omega)
theorem wrap64_in {z : Int} (h : z.natAbs ≤ 8796093022208) : wrap64 z = z := by unfold wrap64; omega
theorem rdat_any (neg : Bool) (A : Option Addr) (n c : Nat) (l : List Nat) (E p : Int) (w : World) (h : Rd w A n c l) (hn : n ≤ 1099511627776) (hE : E.natAbs ≤ 1099511627776) (hp : p.natAbs ≤ 1099511627776) :
    Calls Try.prog 77 #[.agg #[.bool neg, .slice A n c, .int .i64 E], .int .i64 p] w fun e w' => e = .returned (.int .i64 (dat l E p : Int)) ∧ Below w.heap.size w w' := by
  have HB := Lib.hid ((Below.refl w.heap.size w).alloc (Nat.le_refl _) (.cells #[.bool neg, .slice A n c, .int .i64 E] 69))
  have hs1 : wrap64 (E + (n : Int)) = E + (n : Int) := wrap64_in (by omega)
  have hs2 : wrap64 (p - E) = p - E := wrap64_in (by omega)
  have hl := h.1
  by_cases h1 : p < E
  · have hd : dat l E p = 0 := by unfold dat; rw [if_pos (.inl h1)]
    rw [hd]
    have hb1 : decide (p < E) = true := by simpa using h1
    clear hd h hn hE hp hl h1 hs2
    go_enter Try.func77, Try.ntmps77
    go_wp2_with fail
    go_ret
    exact ⟨rfl, HB.out⟩
  · by_cases h2 : E + (n : Int) ≤ p
    · have hd : dat l E p = 0 := by unfold dat; rw [if_pos (.inr (by omega))]
      rw [hd]
      have hb1 : decide (p < E) = false := by simpa using h1
      have hb2 : decide (E + (n : Int) ≤ p) = true := by simpa using h2
      clear hd h hn hE hp hl h1 h2 hs2
      go_enter Try.func77, Try.ntmps77
      go_wp2_with fail
      go_ret
      exact ⟨rfl, HB.out⟩
    · obtain ⟨k, hk⟩ : ∃ k : Nat, p - E = (k : Int) := ⟨(p - E).toNat, by omega⟩
      have hkl : k < l.length := by omega
      obtain ⟨b, o, rfl, _, hcell0⟩ := h.2.2.1.at_ (ints_get l k hkl)
      have hcell := cell_below hcell0 HB.out
      have hd : dat l E p = l[k] := by
        unfold dat
        rw [if_neg (by omega), show (p - E).toNat = k by omega]
        simp [List.getD, hkl]
      rw [hd]
      have hb1 : decide (p < E) = false := by simpa using h1
      have hb2 : decide (E + (n : Int) ≤ p) = false := by simp; omega
      rw [hk] at hs2
      have hkn : (k : Int) < (n : Int) := by omega
      have HK := Lib.hid hk
      generalize l[k] = v at *
      clear hd h hn hE hp hl h1 h2 hcell0 hkl
      go_enter Try.func77, Try.ntmps77
      go_wp2_with fail
      go_ret
      exact ⟨rfl, HB.out⟩

theorem rminus_any (neg : Bool) (A : Option Addr) (n c : Nat) (E : Int) (w : World) :
    Calls Try.prog 75 #[.agg #[.bool neg, .slice A n c, .int .i64 E]] w fun e w' => e = .returned (.agg #[.bool (if n = 0 then neg else !neg), .slice A n c, .int .i64 E]) ∧ Below w.heap.size w w' := by
  by_cases h0 : n = 0
  · subst h0
    rw [if_pos rfl]
    go_enter Try.func75, Try.ntmps75
    go_wp2_with fail
    obtain ⟨q0, q1, q2⟩ := cells3 (Blk.new_ (w.alloc (.cells #[.bool neg, .slice A 0 c, .int .i64 E] 69)) 69 #[.bool neg, .slice A 0 c, .int .i64 E] (w.heap.size + 1) (by simp))
    exact bodyPost_ret (v := .agg #[.bool neg, .slice A 0 c, .int .i64 E]) (by simp [results, Try.results75, go_sem, q0, q1, q2]) rfl ⟨rfl, ((Below.refl w.heap.size w).alloc (Nat.le_refl _) (.cells #[.bool neg, .slice A 0 c, .int .i64 E] 69)).alloc (by simp) (.cells #[.bool neg, .slice A 0 c, .int .i64 E] 69)⟩
  · rw [if_neg h0]
    have hp : decide ((0 : Int) < (n : Int)) = true := by simp; omega
    have hp2 : decide (0 < n) = true := by simp; omega
    clear h0
    go_enter Try.func75, Try.ntmps75
    go_wp2_with fail
    obtain ⟨q0, q1, q2⟩ := cells3 (Blk.new_ (w.alloc (.cells #[.bool (!neg), .slice A n c, .int .i64 E] 69)) 69 #[.bool (!neg), .slice A n c, .int .i64 E] (w.heap.size + 1) (by simp))
    exact bodyPost_ret (v := .agg #[.bool (!neg), .slice A n c, .int .i64 E]) (by simp [results, Try.results75, go_sem, q0, q1, q2]) rfl ⟨rfl, ((Below.refl w.heap.size w).alloc (Nat.le_refl _) (.cells #[.bool (!neg), .slice A n c, .int .i64 E] 69)).alloc (by simp) (.cells #[.bool (!neg), .slice A n c, .int .i64 E] 69)⟩

theorem rsignd_any (neg : Bool) (A : Option Addr) (n c : Nat) (E : Int) (w : World) :
    Calls Try.prog 70 #[.agg #[.bool neg, .slice A n c, .int .i64 E]] w fun e w' => e = .returned (.int .i64 (if n = 0 then 0 else if neg = true then -1 else 1)) ∧ Below w.heap.size w w' := by
  have HB := Lib.hid ((Below.refl w.heap.size w).alloc (Nat.le_refl _) (.cells #[.bool neg, .slice A n c, .int .i64 E] 69))
  by_cases h0 : n = 0
  · rw [if_pos h0]
    have ht : ((n : Int) == 0) = true := by simp [h0]
    clear h0
    go_enter Try.func70, Try.ntmps70
    go_wp2_with fail
    go_ret
    exact ⟨rfl, HB.out⟩
  · rw [if_neg h0]
    have ht : ((n : Int) == 0) = false := by simp; omega
    clear h0
    cases neg
    · go_enter Try.func70, Try.ntmps70
      go_wp2_with fail
      go_ret
      exact ⟨rfl, HB.out⟩
    · go_enter Try.func70, Try.ntmps70
      go_wp2_with fail
      go_ret
      exact ⟨rfl, HB.out⟩
end Go.Proofs.Ytelpdbkkefpjhaa
/-
The document's numbers as values: what they hold, how many digits they have. Conditions: as each says.
-/
set_option linter.unusedVariables false
set_option linter.unusedSimpArgs false
namespace Go.Proofs.Ytelpdbkkefpjhaa
open Go.RowKit

/-- The value holds the number. -/
def DV (W : World) (v : Value) (d : Dyadic) : Prop :=
  ∃ (neg : Bool) (A : Option Addr) (n c : Nat) (E : Int) (l : List Nat), v = .agg #[.bool neg, .slice A n c, .int .i64 E] ∧ Rd W A n c l ∧ Neat neg l E ∧ rdy neg l E = d
theorem DV.below {W W' : World} {v : Value} {d : Dyadic} (h : DV W v d) (hb : Below W.heap.size W W') : DV W' v d := by
  obtain ⟨neg, A, n, c, E, l, h1, h2, h3, h4⟩ := h
  exact ⟨neg, A, n, c, E, l, h1, h2.below hb, h3, h4⟩
theorem RetR.dv {d : Dyadic} {w : World} {e : Ending} {w' : World} (h : RetR d w e w') : ∃ v, e = .returned v ∧ DV w' v d ∧ Below w.heap.size w w' := by
  obtain ⟨neg, A, n, c, E, l, h1, h2, h3, h4, h5⟩ := h
  exact ⟨_, h1, ⟨neg, A, n, c, E, l, rfl, h2, h3, h4⟩, h5⟩
/-- The number lies in few digits. -/
def Fitd (d : Dyadic) : Prop := ∃ (lo : Int) (k : Nat) (m : Int), lo.natAbs ≤ 268435456 ∧ k ≤ 268435456 ∧ d = dy m (16 * lo) ∧ m.natAbs < 65536 ^ k
theorem sgd_abs (neg : Bool) (m : Nat) : (sgd neg m).natAbs = m := by unfold sgd; cases neg <;> simp
theorem fitd_of {m e : Int} {j : Nat} (h : m.natAbs < 2 ^ j) (hj : j ≤ 268435440) (he : e.natAbs ≤ 268435456) : Fitd (dy m e) := by
  obtain ⟨r, hr⟩ : ∃ r : Nat, (r : Int) = e % 16 := ⟨(e % 16).toNat, by omega⟩
  refine ⟨e / 16, j + 1, m * 2 ^ r, by omega, by omega, ?_, ?_⟩
  · rw [dy_pow]; congr 1; omega
  · rw [Int.natAbs_mul, Int.natAbs_pow, pow16]
    have h1 : 2 ^ r ≤ 2 ^ 16 := Nat.pow_le_pow_right (by omega) (by omega)
    have h2 : m.natAbs * 2 ^ r < 2 ^ j * 2 ^ 16 := Nat.mul_lt_mul_of_lt_of_le h h1 (Nat.pow_pos (by omega))
    rw [← Nat.pow_add] at h2
    exact Nat.lt_of_lt_of_le h2 (Nat.pow_le_pow_right (by omega) (by omega))
theorem last_ge {l : List Nat} (hD : Digs 65536 l) (hl : l ≠ []) (h : l.getLast? ≠ some 0) : 65536 ^ (l.length - 1) ≤ ofd 65536 l := by
  have h1 := digs_ofd (B := 65536) (by omega) hD h
  have h2 : ofd 65536 l ≠ 0 := by
    intro e
    rw [e, digs_zero] at h1
    exact hl h1.symm
  have := digs_pow_le (B := 65536) (by omega) h2
  rw [h1] at this
  exact this
theorem head_mod {l : List Nat} (hD : Digs 65536 l) (hl : l ≠ []) (h : l.head? ≠ some 0) : ofd 65536 l % 65536 ≠ 0 := by
  cases l with
  | nil => exact absurd rfl hl
  | cons d l =>
    have hd := hD.head
    rw [ofd_cons, Nat.add_mul_mod_self_left, Nat.mod_eq_of_lt hd]
    simpa using h
/-- Where its digits lie. -/
theorem neat_in {neg : Bool} {l : List Nat} {E lo m : Int} {k : Nat} (hN : Neat neg l E) (hD : Digs 65536 l) (h : rdy neg l E = dy m (16 * lo)) (hm : m.natAbs < 65536 ^ k) : l = [] ∨ (lo ≤ E ∧ E + l.length ≤ lo + k) := by
  rcases hN with ⟨h0, _, _⟩ | ⟨hl, h1, h2⟩
  · exact .inl h0
  · right
    have hh := head_mod hD hl h1
    have hg := last_ge hD hl h2
    have hlen : 0 < l.length := List.length_pos_iff.2 hl
    rw [rdy_sgd] at h
    rcases Int.lt_or_le E lo with hlt | hge
    · exfalso
      obtain ⟨a, ha⟩ : ∃ a : Nat, E + a = lo := ⟨(lo - E).toNat, by omega⟩
      have ha1 : 1 ≤ a := by omega
      rw [← ha, show 16 * (E + a) = 16 * E + ((16 * a : Nat) : Int) by omega, ← dy_pow, dy_eq] at h
      have h3 := congrArg Int.natAbs h
      rw [sgd_abs, Int.natAbs_mul, Int.natAbs_pow] at h3
      have h4 : (2 : Int).natAbs ^ (16 * a) = 65536 * 65536 ^ (a - 1) := by
        rw [← Nat.pow_succ', show (a - 1).succ = a by omega, pow16]; rfl
      rw [h4, Nat.mul_left_comm] at h3
      rw [h3] at hh
      exact hh (Nat.mul_mod_right _ _)
    · obtain ⟨a, ha⟩ : ∃ a : Nat, lo + a = E := ⟨(E - lo).toNat, by omega⟩
      refine ⟨hge, ?_⟩
      rw [← ha, show 16 * (lo + a) = 16 * lo + ((16 * a : Nat) : Int) by omega, ← dy_pow, dy_eq] at h
      have h3 := congrArg Int.natAbs h
      rw [Int.natAbs_mul, sgd_abs, Int.natAbs_pow] at h3
      have h4 : (2 : Int).natAbs ^ (16 * a) = 65536 ^ a := by rw [pow16]; rfl
      rw [h4] at h3
      have h5 : 65536 ^ (l.length - 1 + a) ≤ ofd 65536 l * 65536 ^ a := by rw [Nat.pow_add]; exact Nat.mul_le_mul_right _ hg
      have h6 : l.length - 1 + a < k := by
        rcases Nat.lt_or_ge (l.length - 1 + a) k with h | h
        · exact h
        · have := Nat.pow_le_pow_right (show 0 < 65536 by omega) h
          omega
      omega
/-- A number that fits: how many digits, from where. -/
theorem fitd_in {neg : Bool} {l : List Nat} {E : Int} (hN : Neat neg l E) (hD : Digs 65536 l) (h : Fitd (rdy neg l E)) : l.length ≤ 268435456 ∧ E.natAbs ≤ 536870912 := by
  obtain ⟨lo, k, m, h1, h2, h3, h4⟩ := h
  rcases neat_in hN hD h3 h4 with h5 | ⟨h5, h6⟩
  · subst h5
    rcases hN with ⟨_, _, h0⟩ | ⟨h0, _⟩
    · subst h0; simp
    · exact absurd rfl h0
  · omega
theorem neat_zero {neg : Bool} {l : List Nat} {E : Int} (hN : Neat neg l E) (hD : Digs 65536 l) : l = [] ↔ rdy neg l E = 0 := by
  constructor
  · rintro rfl; exact rdy_nil _ _
  · intro h
    rcases hN with ⟨h0, _, _⟩ | ⟨hl, h1, h2⟩
    · exact h0
    · exfalso
      have hg := last_ge hD hl h2
      rw [rdy_sgd, dy_eq_zero] at h
      have := congrArg Int.natAbs h
      rw [sgd_abs] at this
      have h3 := Nat.pow_pos (n := l.length - 1) (show 0 < 65536 by omega)
      simp at this
      omega
/-- The sign of a number that isn't 0. -/
theorem neat_neg {neg : Bool} {l : List Nat} {E m e : Int} (hN : Neat neg l E) (hD : Digs 65536 l) (h : rdy neg l E = dy m e) : neg = decide (m < 0) := by
  have hz := neat_zero hN hD
  rw [h, dy_eq_zero] at hz
  rw [rdy_sgd] at h
  rcases hN with ⟨h0, h1, _⟩ | ⟨hl, _⟩
  · have := hz.1 h0
    subst this; simpa using h1
  · have hm : m ≠ 0 := fun e => hl (hz.2 e)
    -- both at the lower exponent
    rcases Int.le_total (16 * E) e with hle | hle
    · obtain ⟨a, ha⟩ : ∃ a : Nat, 16 * E + a = e := ⟨(e - 16 * E).toNat, by omega⟩
      rw [← ha, ← dy_pow, dy_eq] at h
      have hp : (0 : Int) < 2 ^ a := Int.pow_pos (by omega)
      unfold sgd at h
      cases neg
      · simp only [Bool.false_eq_true, if_false] at h
        have : 0 ≤ m * 2 ^ a := by omega
        symm; simp
        rcases Int.lt_or_le m 0 with h1 | h1
        · have := Int.mul_neg_of_neg_of_pos h1 hp; omega
        · exact h1
      · simp only [if_true] at h
        symm; simp
        rcases Int.lt_or_le m 0 with h1 | h1
        · exact h1
        · have : 0 < m * 2 ^ a := Int.mul_pos (by omega) hp
          omega
    · obtain ⟨a, ha⟩ : ∃ a : Nat, e + a = 16 * E := ⟨(16 * E - e).toNat, by omega⟩
      rw [← ha, ← dy_pow, dy_eq] at h
      have hp : (0 : Int) < 2 ^ a := Int.pow_pos (by omega)
      unfold sgd at h
      cases neg
      · simp only [Bool.false_eq_true, if_false] at h
        symm; simp
        rw [← h]
        exact Int.mul_nonneg (by omega) (by omega)
      · simp only [if_true] at h
        symm; simp
        rw [← h] at hm ⊢
        have h0 : (ofd 65536 l : Int) ≠ 0 := by intro e0; rw [e0] at hm; simp at hm
        rw [Int.neg_mul]
        have : 0 < (ofd 65536 l : Int) * 2 ^ a := Int.mul_pos (by omega) hp
        omega
/-- Stored into its place: the answer. -/
theorem retR_done {D : Dyadic} {w w2 : World} {g : Nat} {x0 x1 x2 : Value} {ng : Bool} {A : Option Addr} {n c : Nat} {E : Int} {L : List Nat} (hB : Blk w2 g 69 #[x0, x1, x2]) (hR : Rd w2 A n c L) (hN : Neat ng L E) (hd : rdy ng L E = D) (hb : Below w.heap.size w w2) (hg : w.heap.size ≤ g) :
    RetR D w (.returned (.agg #[.bool ng, .slice A n c, .int .i64 E])) (((w2.setCell ⟨g, 0, none⟩ (.bool ng)).setCell ⟨g, 1, none⟩ (.slice A n c)).setCell ⟨g, 2, none⟩ (.int .i64 E)) :=
  ⟨ng, A, n, c, E, L, rfl, ((hR.far hB (by decide) 0 _).far (hB.set_ 0 _) (by decide) 1 _).far ((hB.set_ 0 _).set_ 1 _) (by decide) 2 _, hN, hd, ((hb.setCell (p := ⟨g, 0, none⟩) hg _).setCell (p := ⟨g, 1, none⟩) hg _).setCell (p := ⟨g, 2, none⟩) hg _⟩
end Go.Proofs.Ytelpdbkkefpjhaa
