/-
The document's sums, products, shifts, of values that hold numbers. Conditions: the numbers lie in few digits.
-/
import Derived.Test.YtelpdbkkefpjhaaZSRdL
import Derived.Test.YtelpdbkkefpjhaaWSu
import Derived.Test.YtelpdbkkefpjhaaWSt
import Derived.Test.YtelpdbkkefpjhaaWSs
import Derived.Test.YtelpdbkkefpjhaaWSd
import Derived.Test.YtelpdbkkefpjhaaWSb
import Derived.Test.YtelpdbkkefpjhaaWSc
import Derived.Test.YtelpdbkkefpjhaaZSFlB
set_option linter.unusedVariables false
set_option linter.unusedSimpArgs false
set_option linter.unnecessarySimpa false
namespace Go.Proofs.Ytelpdbkkefpjhaa
open Go.RowKit
attribute [local go_sem ↓] Go.wp_at_zero Go.wp_at_succ

theorem neat_nil {neg : Bool} {l : List Nat} {E : Int} (h : Neat neg l E) (hn : neg = true) : l ≠ [] := by
  rcases h with ⟨_, h, _⟩ | ⟨h, _⟩
  · rw [hn] at h; cases h
  · exact h
theorem rd_zero {w : World} {A : Option Addr} {n c : Nat} {l : List Nat} (h : Rd w A n c l) : n = 0 ↔ l = [] := by
  rw [h.1]; exact List.length_eq_zero_iff
theorem radd_any (p : Bool) (A : Option Addr) (n c : Nat) (l : List Nat) (E : Int) (p' : Bool) (A' : Option Addr) (n' c' : Nat) (l' : List Nat) (E' : Int) (w : World) (h : Rd w A n c l) (h' : Rd w A' n' c' l') (hN : Neat p l E) (hN' : Neat p' l' E') (hn : n ≤ 536870912) (hn' : n' ≤ 536870912) (hE : E.natAbs ≤ 1073741824) (hE' : E'.natAbs ≤ 1073741824) :
    Calls Try.prog 74 #[.agg #[.bool p, .slice A n c, .int .i64 E], .agg #[.bool p', .slice A' n' c', .int .i64 E']] w (RetR (rdy p l E + rdy p' l' E') w) := by
  obtain ⟨⟨fr, tz⟩, hf⟩ : ∃ ft, endsF n E n' E' = ft := ⟨_, rfl⟩
  obtain ⟨N, hT⟩ : ∃ N : Nat, fr + N = tz := ⟨(tz - fr).toNat, by have := (ends_ok hf).2.2; omega⟩
  cases p <;> cases p'
  · exact radd_ff A n c l E A' n' c' l' E' w h h' hn hn' hE hE'
  · have h1 : n' ≠ 0 := fun e => neat_nil hN' rfl ((rd_zero h').1 e)
    by_cases h0 : n = 0
    · exact radd_z1 A n c l E A' n' c' l' E' w h h' hn hn' hE hE' h0
    · by_cases hC : dsum l E fr N < dsum l' E' fr N
      · exact radd_s1 A n c l E A' n' c' l' E' w h h' hn hn' hE hE' h0 h1 fr tz N hf hT hC
      · exact radd_n1 A n c l E A' n' c' l' E' w h h' hn hn' hE hE' h0 h1 fr tz N hf hT (Nat.le_of_not_lt hC)
  · have h0 : n ≠ 0 := fun e => neat_nil hN rfl ((rd_zero h).1 e)
    by_cases h1 : n' = 0
    · exact radd_z2 A n c l E A' n' c' l' E' w h h' hn hn' hE hE' h1 h0
    · by_cases hC : dsum l E fr N < dsum l' E' fr N
      · exact radd_s2 A n c l E A' n' c' l' E' w h h' hn hn' hE hE' h0 h1 fr tz N hf hT hC
      · exact radd_n2 A n c l E A' n' c' l' E' w h h' hn hn' hE hE' h0 h1 fr tz N hf hT (Nat.le_of_not_lt hC)
  · exact radd_tt A n c l E A' n' c' l' E' w h h' hn hn' hE hE'

/-- The call returned a value that holds the number. -/
def RetV (d : Dyadic) (w : World) (e : Ending) (w' : World) : Prop := ∃ v, e = .returned v ∧ DV w' v d ∧ Below w.heap.size w w'
theorem RetR.retv {d : Dyadic} {w : World} {e : Ending} {w' : World} (h : RetR d w e w') : RetV d w e w' := h.dv
/-- What the value is. -/
theorem DV.parts {W : World} {v : Value} {d : Dyadic} (h : DV W v d) (hf : Fitd d) :
    ∃ (neg : Bool) (A : Option Addr) (n c : Nat) (E : Int) (l : List Nat), v = .agg #[.bool neg, .slice A n c, .int .i64 E] ∧ Rd W A n c l ∧ Neat neg l E ∧ rdy neg l E = d ∧ n ≤ 268435456 ∧ E.natAbs ≤ 536870912 := by
  obtain ⟨neg, A, n, c, E, l, h1, h2, h3, h4⟩ := h
  have := fitd_in h3 h2.2.2.2.1 (by rw [h4]; exact hf)
  exact ⟨neg, A, n, c, E, l, h1, h2, h3, h4, by rw [h2.1]; exact this.1, this.2⟩
theorem radd_v {v v' : Value} {d d' : Dyadic} {w : World} (h : DV w v d) (h' : DV w v' d') (hf : Fitd d) (hf' : Fitd d') :
    Calls Try.prog 74 #[v, v'] w (RetV (d + d') w) := by
  obtain ⟨neg, A, n, c, E, l, rfl, h2, h3, rfl, h5, h6⟩ := h.parts hf
  obtain ⟨neg', A', n', c', E', l', rfl, h2', h3', rfl, h5', h6'⟩ := h'.parts hf'
  exact (radd_any neg A n c l E neg' A' n' c' l' E' w h2 h2' h3 h3' (by omega) (by omega) (by omega) (by omega)).mono fun e w' h => h.retv
theorem dy_one (m e k : Int) : dy m e * dy 1 k = dy m (e + k) := by rw [dy_mul, Int.mul_one]
theorem rshift_v {v : Value} {d : Dyadic} {w : World} (k : Int) (hk : k.natAbs ≤ 1099511627776) (h : DV w v d) (hf : Fitd d) :
    Calls Try.prog 47 #[v, .int .i64 k] w (RetV (d * dy 1 k) w) := by
  obtain ⟨neg, A, n, c, E, l, rfl, h2, h3, rfl, h5, h6⟩ := h.parts hf
  refine (rshift_any neg A n c l E k w h2 (by omega) (by omega) (by omega)).mono fun e w' h => ?_
  have := h.retv
  rw [← dy_one] at this
  exact this
theorem neg_rdy (neg : Bool) (l : List Nat) (E : Int) : rdy (!neg) l E = -rdy neg l E := by
  rw [rdy_sgd, rdy_sgd, sgd_not, dy_neg]
theorem neat_not {neg : Bool} {l : List Nat} {E : Int} (h : Neat neg l E) (hl : l ≠ []) : Neat (!neg) l E := by
  rcases h with ⟨h, _⟩ | h
  · exact absurd h hl
  · exact .inr h
theorem rminus_v {v : Value} {d : Dyadic} {w : World} (h : DV w v d) :
    Calls Try.prog 75 #[v] w (RetV (-d) w) := by
  obtain ⟨neg, A, n, c, E, l, rfl, h2, h3, rfl⟩ := h
  refine (rminus_any neg A n c E w).mono ?_
  rintro e w' ⟨rfl, hb⟩
  refine ⟨_, rfl, ⟨_, A, n, c, E, l, rfl, h2.below hb, ?_, ?_⟩, hb⟩
  · by_cases h0 : n = 0
    · rw [if_pos h0]; exact h3
    · rw [if_neg h0]; exact neat_not h3 (fun e => h0 ((rd_zero h2).2 e))
  · by_cases h0 : n = 0
    · rw [if_pos h0, (rd_zero h2).1 h0, rdy_nil]; rfl
    · rw [if_neg h0, neg_rdy]
/-- The sign of a number. -/
theorem rsign_v {v : Value} {d : Dyadic} {w : World} (h : DV w v d) {m e : Int} (hd : d = dy m e) :
    Calls Try.prog 70 #[v] w fun e w' => e = .returned (.int .i64 m.sign) ∧ Below w.heap.size w w' := by
  obtain ⟨neg, A, n, c, E, l, rfl, h2, h3, h4⟩ := h
  rw [hd] at h4
  have hs : (if n = 0 then (0 : Int) else if neg = true then -1 else 1) = m.sign := by
    have hz := neat_zero h3 h2.2.2.2.1
    have hg := neat_neg h3 h2.2.2.2.1 h4
    rw [h4, dy_eq_zero] at hz
    by_cases h0 : n = 0
    · rw [if_pos h0, hz.1 ((rd_zero h2).1 h0)]; rfl
    · rw [if_neg h0]
      have hm : m ≠ 0 := fun e => h0 ((rd_zero h2).2 (hz.2 e))
      by_cases hn : m < 0
      · rw [hg, if_pos (by simpa using hn), Int.sign_eq_neg_one_of_neg hn]
      · rw [hg, if_neg (by simpa using hn), Int.sign_eq_one_of_pos (by omega)]
  rw [← hs]
  exact rsignd_any neg A n c E w

/-- The box holds the number. -/
def Bx (W : World) (g : Nat) (d : Dyadic) : Prop := ∃ (neg : Bool) (A : Option Addr) (n c : Nat) (E : Int) (l : List Nat), Blk W g 69 #[.bool neg, .slice A n c, .int .i64 E] ∧ Rd W A n c l ∧ Neat neg l E ∧ rdy neg l E = d
theorem Bx.below {W W' : World} {g : Nat} {d : Dyadic} (h : Bx W g d) (hb : Below W.heap.size W W') : Bx W' g d := by
  obtain ⟨neg, A, n, c, E, l, h1, h2, h3, h4⟩ := h
  exact ⟨neg, A, n, c, E, l, h1.next hb, h2.below hb, h3, h4⟩
theorem DV.far {W : World} {v : Value} {d : Dyadic} (h : DV W v d) {g : Nat} {t : TypeId} {cs : Array Value} (hB : Blk W g t cs) (ht : t ≠ 3) (i : Nat) (u : Value) : DV (W.setCell ⟨g, i, none⟩ u) v d := by
  obtain ⟨neg, A, n, c, E, l, h1, h2, h3, h4⟩ := h
  exact ⟨neg, A, n, c, E, l, h1, h2.far hB ht i u, h3, h4⟩
theorem Bx.lt {W : World} {g : Nat} {d : Dyadic} (h : Bx W g d) : g < W.heap.size := by
  obtain ⟨neg, A, n, c, E, l, h1, h2, h3, h4⟩ := h
  exact h1.lt
/-- Stored into a box. -/
theorem bx_store {W : World} {g : Nat} {x0 x1 x2 : Value} {ng : Bool} {A : Option Addr} {n c : Nat} {E : Int} {L : List Nat} {D : Dyadic} (hB : Blk W g 69 #[x0, x1, x2]) (hR : Rd W A n c L) (hN : Neat ng L E) (hd : rdy ng L E = D) :
    Bx (((W.setCell ⟨g, 0, none⟩ (.bool ng)).setCell ⟨g, 1, none⟩ (.slice A n c)).setCell ⟨g, 2, none⟩ (.int .i64 E)) g D :=
  ⟨ng, A, n, c, E, L, Blk.store3 hB _ _ _, ((hR.far hB (by decide) 0 _).far (hB.set_ 0 _) (by decide) 1 _).far ((hB.set_ 0 _).set_ 1 _) (by decide) 2 _, hN, hd⟩
end Go.Proofs.Ytelpdbkkefpjhaa
/-
A float's number.
-/
set_option linter.unusedVariables false
namespace Go.Proofs.Ytelpdbkkefpjhaa

/-- A float's number. -/
def fdy (b : Nat) : Dyadic := dy (Fl.val b) (-1074)
theorem fdy_parts (b : Nat) : dy (if Fl.sg b then -(Fl.pm b : Int) else (Fl.pm b : Int)) ((Fl.pe b : Int) - 1074) = fdy b := by
  unfold fdy Fl.val
  rw [Fl.mag_parts, show ((Fl.pe b : Int) - 1074) = -1074 + (Fl.pe b : Int) by omega, ← dy_pow]
  congr 1
  cases Fl.sg b <;> simp [Int.neg_mul]
theorem mag_inf (K : Nat) (hK : K = 2098) : Fl.mag Fl.INF = 2 ^ K := by
  have e2 : 4503599627370496 + 9218868437227405312 % 4503599627370496 = 2 ^ 52 := by decide
  obtain ⟨k, hk⟩ : ∃ k, 9218868437227405312 / 4503599627370496 - 1 = k := ⟨_, rfl⟩
  unfold Fl.mag Fl.INF
  rw [if_neg (by omega), hk, e2, ← Nat.pow_add, show 52 + k = K by omega]
theorem mag_lt_big {r : Nat} (K : Nat) (hK : K = 2098) (h : r < Fl.INF) : Fl.mag r < 2 ^ K := by
  have h1 : Fl.mag r < Fl.mag Fl.INF := Fl.mag_lt h
  rw [mag_inf K hK] at h1
  exact h1
theorem val_lt_big {b : Nat} (K : Nat) (hK : K = 2098) (h : Fl.rung b < Fl.INF) : (Fl.val b).natAbs < 2 ^ K := by
  have := mag_lt_big K hK h
  unfold Fl.val
  generalize 2 ^ K = P at *
  split <;> omega
end Go.Proofs.Ytelpdbkkefpjhaa
