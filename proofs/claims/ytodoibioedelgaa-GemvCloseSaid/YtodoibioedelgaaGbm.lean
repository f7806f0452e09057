/-
The document's sums, products, shifts, of values that hold numbers. Conditions: the numbers lie in few digits.
-/
import Derived.Test.YtodoibioedelgaaGbk
import Derived.Test.YtodoibioedelgaaGbl
import Derived.Test.YtodoibioedelgaaGbi
import Derived.Test.YtodoibioedelgaaGc
import Derived.Test.YtodoibioedelgaaGb
import Derived.Test.YtodoibioedelgaaGbd
import Derived.Test.YtodoibioedelgaaGt
set_option linter.unusedVariables false
set_option linter.unusedSimpArgs false
set_option linter.unnecessarySimpa false
namespace Go.Proofs.Ytodoibioedelgaa
open Go.RowKit
attribute [local go_sem ↓] Go.wp_at_zero Go.wp_at_succ

theorem neat_nil {neg : Bool} {l : List Nat} {E : Int} (h : Neat neg l E) (hn : neg = true) : l ≠ [] := by
  rcases h with ⟨_, h, _⟩ | ⟨h, _⟩
  · rw [hn] at h; cases h
  · exact h
theorem rd_zero {w : World} {A : Option Addr} {n c : Nat} {l : List Nat} (h : Rd w A n c l) : n = 0 ↔ l = [] := by
  rw [h.1]; exact List.length_eq_zero_iff
theorem radd_any (p : Bool) (A : Option Addr) (n c : Nat) (l : List Nat) (E : Int) (p' : Bool) (A' : Option Addr) (n' c' : Nat) (l' : List Nat) (E' : Int) (w : World) (h : Rd w A n c l) (h' : Rd w A' n' c' l') (hN : Neat p l E) (hN' : Neat p' l' E') (hn : n ≤ 536870912) (hn' : n' ≤ 536870912) (hE : E.natAbs ≤ 1073741824) (hE' : E'.natAbs ≤ 1073741824) :
    Calls Try.prog 30 #[.agg #[.bool p, .slice A n c, .int .i64 E], .agg #[.bool p', .slice A' n' c', .int .i64 E']] w (RetR (rdy p l E + rdy p' l' E') w) := by
  obtain ⟨⟨fr, tz⟩, hf⟩ : ∃ ft, endsF n E n' E' = ft := ⟨_, rfl⟩
  obtain ⟨N, hT⟩ : ∃ N : Nat, fr + N = tz := ⟨(tz - fr).toNat, by have := (ends_ok hf).2.2; omega⟩
  cases p <;> cases p'
  · exact radd_ff A n c l E A' n' c' l' E' w h h' hn hn' hE hE'
  · have h1 : n' ≠ 0 := fun e => neat_nil hN' rfl ((rd_zero h').1 e)
    by_cases h0 : n = 0
    · exact radd_z1 A n c l E A' n' c' l' E' w h h' hn hn' hE hE' h0
    · by_cases hC : dsum l E fr N < dsum l' E' fr N
      · exact radd_s1 A n c l E A' n' c' l' E' w h h' hn hn' hE hE' h0 h1 fr tz N hf hT hC
      · exact radd_n1 A n c l E A' n' c' l' E' w h h' hn hn' hE hE' h0 h1 fr tz N hf hT (Nat.le_of_not_lt hC)
  · have h0 : n ≠ 0 := fun e => neat_nil hN rfl ((rd_zero h).1 e)
    by_cases h1 : n' = 0
    · exact radd_z2 A n c l E A' n' c' l' E' w h h' hn hn' hE hE' h1 h0
    · by_cases hC : dsum l E fr N < dsum l' E' fr N
      · exact radd_s2 A n c l E A' n' c' l' E' w h h' hn hn' hE hE' h0 h1 fr tz N hf hT hC
      · exact radd_n2 A n c l E A' n' c' l' E' w h h' hn hn' hE hE' h0 h1 fr tz N hf hT (Nat.le_of_not_lt hC)
  · exact radd_tt A n c l E A' n' c' l' E' w h h' hn hn' hE hE'

/-- The call returned a value that holds the number. -/
def RetV (d : Dyadic) (w : World) (e : Ending) (w' : World) : Prop := ∃ v, e = .returned v ∧ DV w' v d ∧ Below w.heap.size w w'
theorem RetR.retv {d : Dyadic} {w : World} {e : Ending} {w' : World} (h : RetR d w e w') : RetV d w e w' := h.dv
/-- What the value is. -/
theorem DV.parts {W : World} {v : Value} {d : Dyadic} (h : DV W v d) (hf : Fitd d) :
    ∃ (neg : Bool) (A : Option Addr) (n c : Nat) (E : Int) (l : List Nat), v = .agg #[.bool neg, .slice A n c, .int .i64 E] ∧ Rd W A n c l ∧ Neat neg l E ∧ rdy neg l E = d ∧ n ≤ 268435456 ∧ E.natAbs ≤ 536870912 := by
  obtain ⟨neg, A, n, c, E, l, h1, h2, h3, h4⟩ := h
  have := fitd_in h3 h2.2.2.2.1 (by rw [h4]; exact hf)
  exact ⟨neg, A, n, c, E, l, h1, h2, h3, h4, by rw [h2.1]; exact this.1, this.2⟩
theorem radd_v {v v' : Value} {d d' : Dyadic} {w : World} (h : DV w v d) (h' : DV w v' d') (hf : Fitd d) (hf' : Fitd d') :
    Calls Try.prog 30 #[v, v'] w (RetV (d + d') w) := by
  obtain ⟨neg, A, n, c, E, l, rfl, h2, h3, rfl, h5, h6⟩ := h.parts hf
  obtain ⟨neg', A', n', c', E', l', rfl, h2', h3', rfl, h5', h6'⟩ := h'.parts hf'
  exact (radd_any neg A n c l E neg' A' n' c' l' E' w h2 h2' h3 h3' (by omega) (by omega) (by omega) (by omega)).mono fun e w' h => h.retv
theorem rmul_v {v v' : Value} {d d' : Dyadic} {w : World} (h : DV w v d) (h' : DV w v' d') (hf : Fitd d) (hf' : Fitd d') :
    Calls Try.prog 29 #[v, v'] w (RetV (d * d') w) := by
  obtain ⟨neg, A, n, c, E, l, rfl, h2, h3, rfl, h5, h6⟩ := h.parts hf
  obtain ⟨neg', A', n', c', E', l', rfl, h2', h3', rfl, h5', h6'⟩ := h'.parts hf'
  exact (rmul_any neg A n c l E neg' A' n' c' l' E' w h2 h2' (by omega) (by omega) (by omega) (by omega)).mono fun e w' h => h.retv
theorem dy_one (m e k : Int) : dy m e * dy 1 k = dy m (e + k) := by rw [dy_mul, Int.mul_one]
theorem rshift_v {v : Value} {d : Dyadic} {w : World} (k : Int) (hk : k.natAbs ≤ 1099511627776) (h : DV w v d) (hf : Fitd d) :
    Calls Try.prog 31 #[v, .int .i64 k] w (RetV (d * dy 1 k) w) := by
  obtain ⟨neg, A, n, c, E, l, rfl, h2, h3, rfl, h5, h6⟩ := h.parts hf
  refine (rshift_any neg A n c l E k w h2 (by omega) (by omega) (by omega)).mono fun e w' h => ?_
  have := h.retv
  rw [← dy_one] at this
  exact this
theorem rint_v (k : Int) (w : World) (h0 : -9223372036854775808 ≤ k) (h1 : k ≤ 9223372036854775807) :
    Calls Try.prog 32 #[.int .i64 k] w (RetV (dy k 0) w) := (rint_any k w h0 h1).mono fun e w' h => h.retv
theorem neg_rdy (neg : Bool) (l : List Nat) (E : Int) : rdy (!neg) l E = -rdy neg l E := by
  rw [rdy_sgd, rdy_sgd, sgd_not, dy_neg]
theorem neat_not {neg : Bool} {l : List Nat} {E : Int} (h : Neat neg l E) (hl : l ≠ []) : Neat (!neg) l E := by
  rcases h with ⟨h, _⟩ | h
  · exact absurd h hl
  · exact .inr h
theorem rminus_v {v : Value} {d : Dyadic} {w : World} (h : DV w v d) :
    Calls Try.prog 67 #[v] w (RetV (-d) w) := by
  obtain ⟨neg, A, n, c, E, l, rfl, h2, h3, rfl⟩ := h
  refine (rminus_any neg A n c E w).mono ?_
  rintro e w' ⟨rfl, hb⟩
  refine ⟨_, rfl, ⟨_, A, n, c, E, l, rfl, h2.below hb, ?_, ?_⟩, hb⟩
  · by_cases h0 : n = 0
    · rw [if_pos h0]; exact h3
    · rw [if_neg h0]; exact neat_not h3 (fun e => h0 ((rd_zero h2).2 e))
  · by_cases h0 : n = 0
    · rw [if_pos h0, (rd_zero h2).1 h0, rdy_nil]; rfl
    · rw [if_neg h0, neg_rdy]
/-- The size of a number. -/
def dabs (d : Dyadic) : Dyadic := if d < 0 then -d else d
theorem dabs_dy (m e : Int) : dabs (dy m e) = dy m.natAbs e := by
  unfold dabs
  have h := dy_lt m 0 e
  rw [dy_zero] at h
  by_cases hm : m < 0
  · rw [if_pos (h.2 hm), dy_neg]; congr 1; omega
  · rw [if_neg (fun hh => hm (h.1 hh))]; congr 1; omega
theorem rabs_v {v : Value} {d : Dyadic} {w : World} (h : DV w v d) :
    Calls Try.prog 27 #[v] w (RetV (dabs d) w) := by
  obtain ⟨neg, A, n, c, E, l, rfl, h2, h3, rfl⟩ := h
  refine (rabsd_any neg A n c E w).mono ?_
  rintro e w' ⟨rfl, hb⟩
  refine ⟨_, rfl, ⟨false, A, n, c, E, l, rfl, h2.below hb, ?_, ?_⟩, hb⟩
  · rcases h3 with ⟨h, _, h1⟩ | h
    · exact .inl ⟨h, rfl, h1⟩
    · exact .inr h
  · rw [rdy_sgd, rdy_sgd, dabs_dy, sgd_abs]; rfl
/-- The sign of a number. -/
theorem rsign_v {v : Value} {d : Dyadic} {w : World} (h : DV w v d) {m e : Int} (hd : d = dy m e) :
    Calls Try.prog 68 #[v] w fun e w' => e = .returned (.int .i64 m.sign) ∧ Below w.heap.size w w' := by
  obtain ⟨neg, A, n, c, E, l, rfl, h2, h3, h4⟩ := h
  rw [hd] at h4
  have hs : (if n = 0 then (0 : Int) else if neg = true then -1 else 1) = m.sign := by
    have hz := neat_zero h3 h2.2.2.2.1
    have hg := neat_neg h3 h2.2.2.2.1 h4
    rw [h4, dy_eq_zero] at hz
    by_cases h0 : n = 0
    · rw [if_pos h0, hz.1 ((rd_zero h2).1 h0)]; rfl
    · rw [if_neg h0]
      have hm : m ≠ 0 := fun e => h0 ((rd_zero h2).2 (hz.2 e))
      by_cases hn : m < 0
      · rw [hg, if_pos (by simpa using hn), Int.sign_eq_neg_one_of_neg hn]
      · rw [hg, if_neg (by simpa using hn), Int.sign_eq_one_of_pos (by omega)]
  rw [← hs]
  exact rsignd_any neg A n c E w

/-- The box holds the number. -/
def Bx (W : World) (g : Nat) (d : Dyadic) : Prop := ∃ (neg : Bool) (A : Option Addr) (n c : Nat) (E : Int) (l : List Nat), Blk W g 52 #[.bool neg, .slice A n c, .int .i64 E] ∧ Rd W A n c l ∧ Neat neg l E ∧ rdy neg l E = d
theorem Bx.below {W W' : World} {g : Nat} {d : Dyadic} (h : Bx W g d) (hb : Below W.heap.size W W') : Bx W' g d := by
  obtain ⟨neg, A, n, c, E, l, h1, h2, h3, h4⟩ := h
  exact ⟨neg, A, n, c, E, l, h1.next hb, h2.below hb, h3, h4⟩
theorem DV.far {W : World} {v : Value} {d : Dyadic} (h : DV W v d) {g : Nat} {t : TypeId} {cs : Array Value} (hB : Blk W g t cs) (ht : t ≠ 3) (i : Nat) (u : Value) : DV (W.setCell ⟨g, i, none⟩ u) v d := by
  obtain ⟨neg, A, n, c, E, l, h1, h2, h3, h4⟩ := h
  exact ⟨neg, A, n, c, E, l, h1, h2.far hB ht i u, h3, h4⟩
theorem Bx.lt {W : World} {g : Nat} {d : Dyadic} (h : Bx W g d) : g < W.heap.size := by
  obtain ⟨neg, A, n, c, E, l, h1, h2, h3, h4⟩ := h
  exact h1.lt
/-- Stored into a box. -/
theorem bx_store {W : World} {g : Nat} {x0 x1 x2 : Value} {ng : Bool} {A : Option Addr} {n c : Nat} {E : Int} {L : List Nat} {D : Dyadic} (hB : Blk W g 52 #[x0, x1, x2]) (hR : Rd W A n c L) (hN : Neat ng L E) (hd : rdy ng L E = D) :
    Bx (((W.setCell ⟨g, 0, none⟩ (.bool ng)).setCell ⟨g, 1, none⟩ (.slice A n c)).setCell ⟨g, 2, none⟩ (.int .i64 E)) g D :=
  ⟨ng, A, n, c, E, L, Blk.store3 hB _ _ _, ((hR.far hB (by decide) 0 _).far (hB.set_ 0 _) (by decide) 1 _).far ((hB.set_ 0 _).set_ 1 _) (by decide) 2 _, hN, hd⟩
end Go.Proofs.Ytodoibioedelgaa
/-
A float's number.
-/
set_option linter.unusedVariables false
namespace Go.Proofs.Ytodoibioedelgaa

/-- A float's number. -/
def fdy (b : Nat) : Dyadic := dy (Fl.val b) (-1074)
theorem fdy_parts (b : Nat) : dy (if Fl.sg b then -(Fl.pm b : Int) else (Fl.pm b : Int)) ((Fl.pe b : Int) - 1074) = fdy b := by
  unfold fdy Fl.val
  rw [Fl.mag_parts, show ((Fl.pe b : Int) - 1074) = -1074 + (Fl.pe b : Int) by omega, ← dy_pow]
  congr 1
  cases Fl.sg b <;> simp [Int.neg_mul]
theorem mag_inf (K : Nat) (hK : K = 2098) : Fl.mag Fl.INF = 2 ^ K := by
  have e2 : 4503599627370496 + 9218868437227405312 % 4503599627370496 = 2 ^ 52 := by decide
  obtain ⟨k, hk⟩ : ∃ k, 9218868437227405312 / 4503599627370496 - 1 = k := ⟨_, rfl⟩
  unfold Fl.mag Fl.INF
  rw [if_neg (by omega), hk, e2, ← Nat.pow_add, show 52 + k = K by omega]
theorem mag_lt_big {r : Nat} (K : Nat) (hK : K = 2098) (h : r < Fl.INF) : Fl.mag r < 2 ^ K := by
  have h1 : Fl.mag r < Fl.mag Fl.INF := Fl.mag_lt h
  rw [mag_inf K hK] at h1
  exact h1
theorem val_lt_big {b : Nat} (K : Nat) (hK : K = 2098) (h : Fl.rung b < Fl.INF) : (Fl.val b).natAbs < 2 ^ K := by
  have := mag_lt_big K hK h
  unfold Fl.val
  generalize 2 ^ K = P at *
  split <;> omega
end Go.Proofs.Ytodoibioedelgaa
/-
The document's Of, Sub, Cmp. Conditions: the numbers lie in few digits.
-/
set_option linter.unusedVariables false
set_option linter.unusedSimpArgs false
set_option linter.unnecessarySimpa false
namespace Go.Proofs.Ytodoibioedelgaa
open Go.RowKit
attribute [local go_sem ↓] Go.wp_at_zero Go.wp_at_succ

theorem fitd_neg {d : Dyadic} (h : Fitd d) : Fitd (-d) := by
  obtain ⟨lo, k, m, h1, h2, rfl, h4⟩ := h
  exact ⟨lo, k, -m, h1, h2, by rw [dy_neg], by rwa [Int.natAbs_neg]⟩
theorem fitd_float {b : Nat} (h : Fl.rung b < Fl.INF) : Fitd (fdy b) := fitd_of (j := 2098) (val_lt_big 2098 rfl h) (by omega) (by omega)

theorem rof_v (b : Nat) (w : World) (hb : b < 18446744073709551616) (hf : Fl.rung b < Fl.INF) : Calls Try.prog 26 #[.float .f64 b] w (RetV (fdy b) w) := by
  have HP := fun W => parts_any b W hb
  have e1 : partM b = (Fl.pm b : Int) := by unfold partM; rw [if_pos hf]
  have e2 : partE b = (Fl.pe b : Int) - 1074 := by unfold partE; rw [if_pos hf]
  rw [e1, e2] at HP
  have HP := Lib.hid HP
  have HW := Lib.hid (fun W => whole_any (Fl.sg b) (Fl.pm b) W (by have := Fl.pm_lt b; omega))
  have HF := Lib.hid (show Fitd (dy (if Fl.sg b then -(Fl.pm b : Int) else (Fl.pm b : Int)) 0) from fitd_of (j := 53) (by have := Fl.pm_lt b; rw [show (2 : Nat) ^ 53 = 9007199254740992 by decide]; split <;> omega) (by omega) (by omega))
  have HK := Lib.hid (show ((Fl.pe b : Int) - 1074).natAbs ≤ 1099511627776 by have := Fl.pe_lt hf; omega)
  have HV := Lib.hid (show dy (if Fl.sg b then -(Fl.pm b : Int) else (Fl.pm b : Int)) 0 * dy 1 ((Fl.pe b : Int) - 1074) = fdy b by rw [dy_one, Int.zero_add, fdy_parts])
  have HR0 := Lib.hid (Blk.new w 52 #[.bool false, .slice none 0 0, .int .i64 0])
  have HB0 := Lib.hid ((Below.refl w.heap.size w).alloc (Nat.le_refl _) (.cells #[.bool false, .slice none 0 0, .int .i64 0] 52))
  generalize dy (if Fl.sg b then -(Fl.pm b : Int) else (Fl.pm b : Int)) 0 = D0 at *
  generalize Fl.sg b = sb at *
  obtain ⟨ee, hee⟩ : ∃ ee : Int, (Fl.pe b : Int) - 1074 = ee := ⟨_, rfl⟩
  rw [hee] at HP HK HV
  generalize Fl.pm b = pm at *
  clear e1 e2 hee hb hf
  go_enter Try.func26, Try.ntmps26
  go_wp2_with fail
  refine (HP.out _).mono ?_
  rintro e w1 ⟨rfl, rfl⟩
  go_wp2_with fail
  refine (HW.out _).mono ?_
  intro e w1 hr
  obtain ⟨v1, rfl, hv1, hb1⟩ := hr.retv
  have HV1 := Lib.hid hv1
  have HR1 := Lib.hid (HR0.out.next hb1)
  have HB1 := Lib.hid (below_nx HB0.out hb1)
  clear hv1 hb1 hr
  go_wp2_with fail
  refine (rshift_v ee HK.out HV1.out (by exact HF.out)).mono ?_
  rintro e w2 ⟨v9, rfl, ⟨ng9, A9, n9, c9, E9, L9, rfl, hR9, hN9, hd9⟩, hb2⟩
  have HR2 := Lib.hid (HR1.out.next hb2)
  have HB2 := Lib.hid (below_nx HB1.out hb2)
  clear hb2
  replace hd9 := hd9.trans HV.out
  have f0 := HR2.out.frozen 0
  have f1 := HR2.out.frozen 1
  have f2 := HR2.out.frozen 2
  obtain ⟨r0, r1, r2⟩ := cells3 HR2.out
  have HRd9 := Lib.hid hR9
  have HN9 := Lib.hid hN9
  have HD9 := Lib.hid (show rdy ng9 L9 E9 = fdy b from hd9)
  clear hR9 hN9 hd9
  go_wp2_with fail
  obtain ⟨q0, q1, q2⟩ := cells3 (Blk.store3 HR2.out (.bool ng9) (.slice A9 n9 c9) (.int .i64 E9))
  exact bodyPost_ret (v := .agg #[.bool ng9, .slice A9 n9 c9, .int .i64 E9]) (by simp [results, Try.results26, go_sem, q0, q1, q2]) rfl (retR_done HR2.out HRd9.out HN9.out HD9.out HB2.out (by omega)).retv

set_option maxRecDepth 100000 in
set_option maxHeartbeats 4000000 in
theorem rsub_v {v v' : Value} {X Y : Dyadic} {w : World} (h : DV w v X) (h' : DV w v' Y) (hf : Fitd X) (hf' : Fitd Y) :
    Calls Try.prog 33 #[v, v'] w (RetV (X - Y) w) := by
  have HF := Lib.hid (And.intro hf (fitd_neg hf'))
  have HDV := Lib.hid (fun W (hb : Below w.heap.size w W) => h.below hb)
  have HDV' := Lib.hid (fun W (hb : Below w.heap.size w W) => h'.below hb)
  obtain ⟨neg, A, n, c, E, l, rfl, _, _, _⟩ := h
  obtain ⟨neg', A', n', c', E', l', rfl, _, _, _⟩ := h'
  have HX := Lib.hid (((Blk.new w 52 #[.bool neg, .slice A n c, .int .i64 E]).alloc (.cells #[.bool neg', .slice A' n' c', .int .i64 E'] 52)).alloc (.cells #[.bool false, .slice none 0 0, .int .i64 0] 52))
  have HY := Lib.hid ((Blk.new_ (w.alloc (.cells #[.bool neg, .slice A n c, .int .i64 E] 52)) 52 #[.bool neg', .slice A' n' c', .int .i64 E'] (w.heap.size + 1) (by simp)).alloc (.cells #[.bool false, .slice none 0 0, .int .i64 0] 52))
  have HR := Lib.hid (Blk.new_ ((w.alloc (.cells #[.bool neg, .slice A n c, .int .i64 E] 52)).alloc (.cells #[.bool neg', .slice A' n' c', .int .i64 E'] 52)) 52 #[.bool false, .slice none 0 0, .int .i64 0] (w.heap.size + 1 + 1) (by simp))
  have HBr := Lib.hid ((((Below.refl w.heap.size w).alloc (Nat.le_refl _) (.cells #[.bool neg, .slice A n c, .int .i64 E] 52)).alloc (by simp) (.cells #[.bool neg', .slice A' n' c', .int .i64 E'] 52)).alloc (by simp; omega) (.cells #[.bool false, .slice none 0 0, .int .i64 0] 52))
  clear hf hf'
  go_enter Try.func33, Try.ntmps33
  go_wp2_with fail
  generalize hW0 : (((w.alloc (.cells #[.bool neg, .slice A n c, .int .i64 E] 52)).alloc (.cells #[.bool neg', .slice A' n' c', .int .i64 E'] 52)).alloc (.cells #[.bool false, .slice none 0 0, .int .i64 0] 52)) = W0 at *
  clear hW0
  refine wp_region_inv [5, 6, 7, 8] (fun d s W => (d 0 = true → s 5 = .agg #[.bool neg, .slice A n c, .int .i64 E]) ∧ (d 1 = true → s 6 = .agg #[.bool neg', .slice A' n' c', .int .i64 E']) ∧ (d 2 = true → DV W (s 7) (-Y)) ∧ (d 3 = true → DV W (s 8) (X + -Y)) ∧ (d 2 = true → d 1 = true) ∧ (d 3 = true → d 0 = true ∧ d 1 = true ∧ d 2 = true) ∧ (d 4 = true → d 0 = true ∧ d 1 = true ∧ d 2 = true ∧ d 3 = true) ∧ ((d 4 = false → Below W0.heap.size W0 W) ∧ (d 4 = true → Bx W (w.heap.size + 1 + 1) (X + -Y) ∧ Below w.heap.size w W)))
    rfl (by kernel_rfl) ?_ ?_ ?_
  · exact ⟨by simp, by simp, by simp, by simp, by simp, by simp, by simp, ⟨fun _ => (Below.refl _ _).drew, fun h => by simp at h⟩⟩
  · refine ⟨?_, ?_, ?_, ?_, ?_, trivial⟩
    all_goals
      intro d s W hJ hfr hd hdep
      simp only [List.mem_cons, forall_eq_or_imp, List.not_mem_nil, false_implies, implies_true, and_true, Region.binds] at hdep
      have f2 := hfr 2 (by decide)
      have f3 := hfr 3 (by decide)
      have f4 := hfr 4 (by decide)
      simp at f2 f3 f4 hdep
      obtain ⟨h0, h1, h2, h3, x0, x1, x2, hT⟩ := hJ
    · have hl : d 4 = false := by
        cases h : d 4
        · rfl
        · have := x2 h; simp [hd] at this
      replace hT := hT.1 hl
      unfold OpSteps
      obtain ⟨p0, p1, p2⟩ := cells3 (HX.out.below hT HX.out.lt)
      simp [go_sem, evS, f2, p0, p1, p2]
      exact ⟨fun _ => by simp [sput], fun h => by simpa [sput] using h1 (by simpa [did] using h), fun h => by simpa [sput] using h2 (by simpa [did] using h), fun h => by simpa [sput] using h3 (by simpa [did] using h), fun h => by have := x0 (by simpa [did] using h); simp [did, this], fun h => by have := x1 (by simpa [did] using h); simp [did, this], fun h => by have := x2 (by simpa [did] using h); simp [did, this], ⟨fun _ => hT, fun h => by simp [did, hl] at h⟩⟩
    · have hl : d 4 = false := by
        cases h : d 4
        · rfl
        · have := x2 h; simp [hd] at this
      replace hT := hT.1 hl
      unfold OpSteps
      obtain ⟨p0, p1, p2⟩ := cells3 (HY.out.below hT HY.out.lt)
      simp [go_sem, evS, f3, p0, p1, p2]
      exact ⟨fun h => by simpa [sput] using h0 (by simpa [did] using h), fun _ => by simp [sput], fun h => by simpa [sput] using h2 (by simpa [did] using h), fun h => by simpa [sput] using h3 (by simpa [did] using h), fun h => by have := x0 (by simpa [did] using h); simp [did, this], fun h => by have := x1 (by simpa [did] using h); simp [did, this], fun h => by have := x2 (by simpa [did] using h); simp [did, this], ⟨fun _ => hT, fun h => by simp [did, hl] at h⟩⟩
    · have hl : d 4 = false := by
        cases h : d 4
        · rfl
        · have := x2 h; simp [hd] at this
      replace hT := hT.1 hl
      have fz1 := h1 (by simp [hdep])
      unfold OpSteps
      simp [go_sem, evS, fz1]
      refine (rminus_v (HDV'.out W (below_nx HBr.out hT))).mono ?_
      rintro e W' ⟨v9, rfl, hv, hb⟩
      refine ⟨_, rfl, ?_⟩
      exact ⟨fun h => by simpa [sput] using h0 (by simpa [did] using h), fun h => by simpa [sput] using h1 (by simpa [did] using h), fun _ => by simpa [sput] using hv, fun h => by simpa [sput] using (h3 (by simpa [did] using h)).below hb, fun _ => by simp [did, hdep], fun h => by have := x1 (by simpa [did] using h); simp [did, this], fun h => by have := x2 (by simpa [did] using h); simp [did, this], ⟨fun _ => below_nx hT hb, fun h => by simp [did, hl] at h⟩⟩
    · have hl : d 4 = false := by
        cases h : d 4
        · rfl
        · have := x2 h; simp [hd] at this
      replace hT := hT.1 hl
      have fz0 := h0 (by simp [hdep])
      have fz2 := h2 (by simp [hdep])
      unfold OpSteps
      simp [go_sem, evS, fz0, fz2]
      refine (radd_v (HDV.out W (below_nx HBr.out hT)) fz2 HF.out.1 HF.out.2).mono ?_
      rintro e W' ⟨v9, rfl, hv, hb⟩
      refine ⟨_, rfl, ?_⟩
      exact ⟨fun h => by simpa [sput] using h0 (by simpa [did] using h), fun h => by simpa [sput] using h1 (by simpa [did] using h), fun h => by simpa [sput] using (h2 (by simpa [did] using h)).below hb, fun _ => by simpa [sput] using hv, fun h => by have := x0 (by simpa [did] using h); simp [did, this], fun _ => by have y2 := x0 (by simp [hdep]); simp [did, hdep, y2], fun h => by have := x2 (by simpa [did] using h); simp [did, this], ⟨fun _ => below_nx hT hb, fun h => by simp [did, hl] at h⟩⟩
    · have fz3 := h3 (by simp [hdep])
      unfold OpSteps
      replace hT := hT.1 hd
      obtain ⟨ng, A9, n9, c9, E9, L9, gv, gR, gN, gd⟩ := fz3
      have hB9 := HR.out.below hT HR.out.lt
      have fr0 := hB9.frozen 0
      have fr1 := hB9.frozen 1
      have fr2 := hB9.frozen 2
      obtain ⟨k0, k1, k2⟩ := cells3 hB9
      simp [go_sem, evS, f4, gv, fr0, fr1, fr2, k0, k1, k2]
      exact ⟨fun h => by simpa [sput] using h0 (by simpa [did] using h), fun h => by simpa [sput] using h1 (by simpa [did] using h), fun h => by simpa [sput] using ((((h2 (by simpa [did] using h)).far hB9 (by decide) 0 _).far (hB9.set_ 0 _) (by decide) 1 _).far ((hB9.set_ 0 _).set_ 1 _) (by decide) 2 _), fun h => by simpa [sput] using ((((h3 (by simpa [did] using h)).far hB9 (by decide) 0 _).far (hB9.set_ 0 _) (by decide) 1 _).far ((hB9.set_ 0 _).set_ 1 _) (by decide) 2 _), fun h => by have := x0 (by simpa [did] using h); simp [did, this], fun h => by have := x1 (by simpa [did] using h); simp [did, this], fun _ => by have y3 := x1 (by simp [hdep]); simp [did, hdep, y3], ⟨fun h => by simp [did] at h, fun _ => ⟨bx_store hB9 gR gN gd, ((((HBr.out.trans (hT.mono HBr.out.size)).setCell (p := ⟨w.heap.size + 1 + 1, 0, none⟩) (by simp <;> omega) _).setCell (p := ⟨w.heap.size + 1 + 1, 1, none⟩) (by simp <;> omega) _).setCell (p := ⟨w.heap.size + 1 + 1, 2, none⟩) (by simp <;> omega) _)⟩⟩⟩
  intro d s W hJ hd
  obtain ⟨h0, h1, h2, h3, x0, x1, x2, hT⟩ := hJ
  obtain ⟨hBx, hBl⟩ := hT.2 (hd 4 (by decide))
  clear h0 h1 h2 h3 x0 x1 x2 hT hd
  obtain ⟨ng9, A9, n9, c9, E9, L9, hB9, hR9, hN9, hd9⟩ := hBx
  obtain ⟨q0, q1, q2⟩ := cells3 hB9
  have HRet := Lib.hid (show RetV (X - Y) w (.returned (.agg #[.bool ng9, .slice A9 n9 c9, .int .i64 E9])) W from ⟨_, rfl, ⟨ng9, A9, n9, c9, E9, L9, rfl, hR9, hN9, hd9⟩, hBl⟩)
  clear hB9 hR9 hN9 hd9 hBl
  simp [setAll]
  generalize s 5 = s5
  generalize s 6 = s6
  generalize s 7 = s7
  generalize s 8 = s8
  go_wp2_with fail
  exact bodyPost_ret (v := .agg #[.bool ng9, .slice A9 n9 c9, .int .i64 E9]) (by simp [results, Try.results33, go_sem, q0, q1, q2]) rfl HRet.out

set_option maxRecDepth 100000 in
set_option maxHeartbeats 4000000 in
theorem rcmp_v {v v' : Value} {X Y : Dyadic} {w : World} (h : DV w v X) (h' : DV w v' Y) (hf : Fitd X) (hf' : Fitd Y) {m e : Int} (hd : X - Y = dy m e) :
    Calls Try.prog 34 #[v, v'] w fun e w' => e = .returned (.int .i64 m.sign) ∧ Below w.heap.size w w' := by
  have HSub := Lib.hid (fun W (hb : Below w.heap.size w W) => rsub_v (h.below hb) (h'.below hb) hf hf')
  have HD := Lib.hid hd
  obtain ⟨neg, A, n, c, E, l, rfl, _, _, _⟩ := h
  obtain ⟨neg', A', n', c', E', l', rfl, _, _, _⟩ := h'
  have HX := Lib.hid ((Blk.new w 52 #[.bool neg, .slice A n c, .int .i64 E]).alloc (.cells #[.bool neg', .slice A' n' c', .int .i64 E'] 52))
  have HY := Lib.hid (Blk.new_ (w.alloc (.cells #[.bool neg, .slice A n c, .int .i64 E] 52)) 52 #[.bool neg', .slice A' n' c', .int .i64 E'] (w.heap.size + 1) (by simp))
  have HBr := Lib.hid (((Below.refl w.heap.size w).alloc (Nat.le_refl _) (.cells #[.bool neg, .slice A n c, .int .i64 E] 52)).alloc (by simp) (.cells #[.bool neg', .slice A' n' c', .int .i64 E'] 52))
  clear hd hf hf'
  go_enter Try.func34, Try.ntmps34
  obtain ⟨a0, a1, a2⟩ := cells3 HX.out
  obtain ⟨b0, b1, b2⟩ := cells3 HY.out
  go_wp2_with fail
  refine (HSub.out _ HBr.out).mono ?_
  rintro e1 w1 ⟨v1, rfl, hv1, hb1⟩
  have HV1 := Lib.hid hv1
  have HB1 := Lib.hid (below_nx HBr.out hb1)
  clear hv1 hb1
  go_wp2_with fail
  refine (rsign_v HV1.out HD.out).mono ?_
  rintro e2 w2 ⟨rfl, hb2⟩
  have HB2 := Lib.hid (below_nx HB1.out hb2)
  clear hb2
  go_wp2_with fail
  go_ret
  exact ⟨rfl, HB2.out⟩

end Go.Proofs.Ytodoibioedelgaa
/-
The document's Dot. Conditions: at most 65536 finite numbers each.
-/
set_option linter.unusedVariables false
set_option linter.unusedSimpArgs false
set_option linter.unnecessarySimpa false
namespace Go.Proofs.Ytodoibioedelgaa
open Go.RowKit
attribute [local go_sem ↓] Go.wp_at_zero Go.wp_at_succ

theorem dotA_le (K : Nat) (hK : K = 2098) (l m : List Nat) : ∀ n, (∀ k, k < n → Fl.rung (l.getD k 0) < Fl.INF) → (∀ k, k < n → Fl.rung (m.getD k 0) < Fl.INF) → dotA l m n ≤ n * (2 ^ K * 2 ^ K)
  | 0, _, _ => by simp [dotA]
  | n + 1, h, h' => by
    have ih := dotA_le K hK l m n (fun k hk => h k (by omega)) (fun k hk => h' k (by omega))
    have h1 := val_lt_big K hK (h n (by omega))
    have h2 := val_lt_big K hK (h' n (by omega))
    have h3 : (Fl.val (l.getD n 0) * Fl.val (m.getD n 0)).natAbs ≤ 2 ^ K * 2 ^ K := by
      rw [Int.natAbs_mul]; exact Nat.mul_le_mul (Nat.le_of_lt h1) (Nat.le_of_lt h2)
    show dotA l m n + (Fl.val (l.getD n 0) * Fl.val (m.getD n 0)).natAbs ≤ _
    rw [Nat.add_mul, Nat.one_mul]
    omega
theorem dot_fit {l m : List Nat} {n : Nat} (h : ∀ k, k < n → Fl.rung (l.getD k 0) < Fl.INF) (h' : ∀ k, k < n → Fl.rung (m.getD k 0) < Fl.INF) (hn : n ≤ 65536) : Fitd (dy (dotE l m n) (-2148)) := by
  obtain ⟨K, hK⟩ : ∃ K, K = 2098 := ⟨_, rfl⟩
  have h1 := dotA_le K hK l m n h h'
  have h2 := dotE_le l m n
  have h3 : n * (2 ^ K * 2 ^ K) ≤ 65536 * (2 ^ K * 2 ^ K) := Nat.mul_le_mul_right _ hn
  have h4 : 65536 * (2 ^ K * 2 ^ K) < 2 ^ (17 + (K + K)) := by
    rw [Nat.pow_add, Nat.pow_add]
    have : 0 < 2 ^ K * 2 ^ K := Nat.mul_pos (Nat.two_pow_pos K) (Nat.two_pow_pos K)
    generalize 2 ^ K * 2 ^ K = P at *
    omega
  exact fitd_of (j := 17 + (K + K)) (by omega) (by omega) (by omega)
theorem fdy_mul (x y : Nat) : fdy x * fdy y = dy (Fl.val x * Fl.val y) (-2148) := by unfold fdy; rw [dy_mul]; rfl
theorem prod_fit {x y : Nat} (h : Fl.rung x < Fl.INF) (h' : Fl.rung y < Fl.INF) : Fitd (fdy x * fdy y) := by
  obtain ⟨K, hK⟩ : ∃ K, K = 2098 := ⟨_, rfl⟩
  have h1 := val_lt_big K hK h
  have h2 := val_lt_big K hK h'
  rw [fdy_mul]
  refine fitd_of (j := K + K) ?_ (by omega) (by omega)
  rw [Int.natAbs_mul, Nat.pow_add]
  exact Nat.mul_lt_mul'' h1 h2

end Go.Proofs.Ytodoibioedelgaa
/-
How large a number is, and how fine: what is made of numbers lies in few digits. Conditions: none.
-/
set_option linter.unusedVariables false
namespace Go.Proofs.Ytodoibioedelgaa
open Go.RowKit

/-- Below 2^k, and a multiple of 2^-k. -/
def Sz (k : Nat) (d : Dyadic) : Prop := ∃ m : Int, d = dy m (-(k : Int)) ∧ m.natAbs < 2 ^ (2 * k)
theorem Sz.fit {k : Nat} {d : Dyadic} (h : Sz k d) (hk : k ≤ 134217720) : Fitd d := by
  obtain ⟨m, rfl, hm⟩ := h
  exact fitd_of hm (by omega) (by omega)
theorem Sz.mono {j k : Nat} {d : Dyadic} (h : Sz j d) (hk : j ≤ k) : Sz k d := by
  obtain ⟨m, rfl, hm⟩ := h
  refine ⟨m * 2 ^ (k - j), by rw [dy_pow]; congr 1; omega, ?_⟩
  have e : ((2 : Int) ^ (k - j)).natAbs = 2 ^ (k - j) := by rw [Int.natAbs_pow]; rfl
  rw [Int.natAbs_mul, e]
  have h1 : m.natAbs * 2 ^ (k - j) < 2 ^ (2 * j) * 2 ^ (k - j) := Nat.mul_lt_mul_of_pos_right hm (Nat.two_pow_pos _)
  rw [← Nat.pow_add] at h1
  exact Nat.lt_of_lt_of_le h1 (Nat.pow_le_pow_right (by omega) (by omega))
theorem Sz.add_ {k : Nat} {a b : Dyadic} (h : Sz k a) (h' : Sz k b) : Sz (k + 1) (a + b) := by
  obtain ⟨m, rfl, hm⟩ := h
  obtain ⟨n, rfl, hn⟩ := h'
  refine ⟨(m + n) * 2 ^ 1, by rw [dy_add, dy_pow]; congr 1; omega, ?_⟩
  rw [show 2 * (k + 1) = 2 * k + 2 by omega, Nat.pow_add]
  generalize 2 ^ (2 * k) = P at *
  omega
theorem Sz.add {j k n : Nat} {a b : Dyadic} (h : Sz j a) (h' : Sz k b) (hj : j < n) (hk : k < n) : Sz n (a + b) := by
  obtain ⟨n', rfl⟩ : ∃ n', n = n' + 1 := ⟨n - 1, by omega⟩
  exact (h.mono (by omega)).add_ (h'.mono (by omega))
theorem Sz.neg {k : Nat} {a : Dyadic} (h : Sz k a) : Sz k (-a) := by
  obtain ⟨m, rfl, hm⟩ := h
  exact ⟨-m, by rw [dy_neg], by omega⟩
theorem Sz.sub {j k n : Nat} {a b : Dyadic} (h : Sz j a) (h' : Sz k b) (hj : j < n) (hk : k < n) : Sz n (a - b) := Sz.add h h'.neg hj hk
theorem Sz.abs {k : Nat} {a : Dyadic} (h : Sz k a) : Sz k (dabs a) := by
  obtain ⟨m, rfl, hm⟩ := h
  exact ⟨m.natAbs, by rw [dabs_dy], by omega⟩
theorem Sz.mul {j k n : Nat} {a b : Dyadic} (h : Sz j a) (h' : Sz k b) (hn : j + k ≤ n) : Sz n (a * b) := by
  refine Sz.mono (j := j + k) ?_ hn
  obtain ⟨m, rfl, hm⟩ := h
  obtain ⟨q, rfl, hq⟩ := h'
  refine ⟨m * q, by rw [dy_mul]; congr 1; omega, ?_⟩
  rw [Int.natAbs_mul, show 2 * (j + k) = 2 * j + 2 * k by omega, Nat.pow_add]
  exact Nat.mul_lt_mul'' hm hq
theorem Sz.int {z : Int} {k : Nat} (h : z.natAbs < 2 ^ k) : Sz k (dy z 0) := by
  refine ⟨z * 2 ^ k, by rw [dy_pow]; congr 1; omega, ?_⟩
  have e : ((2 : Int) ^ k).natAbs = 2 ^ k := by rw [Int.natAbs_pow]; rfl
  rw [Int.natAbs_mul, e, show 2 * k = k + k by omega, Nat.pow_add]
  exact Nat.mul_lt_mul_of_pos_right h (Nat.two_pow_pos _)
theorem Sz.pow (s : Int) : Sz (s.natAbs + 1) (dy 1 s) := by
  obtain ⟨t, ht⟩ : ∃ t : Nat, (t : Int) = s + ((s.natAbs + 1 : Nat) : Int) := ⟨(s + ((s.natAbs + 1 : Nat) : Int)).toNat, by omega⟩
  refine ⟨1 * 2 ^ t, by rw [dy_pow]; congr 1; omega, ?_⟩
  have e : ((2 : Int) ^ t).natAbs = 2 ^ t := by rw [Int.natAbs_pow]; rfl
  rw [Int.natAbs_mul, e, show (1 : Int).natAbs = 1 from rfl, Nat.one_mul]
  exact Nat.pow_lt_pow_right (by omega) (by omega)
theorem Sz.shift {j n : Nat} {a : Dyadic} (h : Sz j a) (s : Int) (hn : j + s.natAbs + 1 ≤ n) : Sz n (a * dy 1 s) := h.mul (Sz.pow s) (by omega)
theorem Sz.float {b : Nat} (h : Fl.rung b < Fl.INF) : Sz 1074 (fdy b) := by
  obtain ⟨K, hK⟩ : ∃ K, K = 2098 := ⟨_, rfl⟩
  obtain ⟨J, hJ⟩ : ∃ J, J = 1074 := ⟨_, rfl⟩
  rw [← hJ]
  refine ⟨Fl.val b, by unfold fdy; congr 1; omega, ?_⟩
  exact Nat.lt_of_lt_of_le (val_lt_big K hK h) (Nat.pow_le_pow_right (by omega) (by omega))
theorem Sz.zero (k : Nat) : Sz k 0 := ⟨0, by rw [dy_zero], Nat.two_pow_pos _⟩
/-- A box that a pointer points to, made behind lo. -/
def NewB (W : World) (v : Value) (lo : Nat) : Prop := ∃ (g : Nat) (x0 x1 x2 : Value), v = .pointer (some ⟨g, 0, none⟩) ∧ Blk W g 52 #[x0, x1, x2] ∧ lo ≤ g
theorem NewB.below {W W' : World} {v : Value} {lo : Nat} (h : NewB W v lo) (hb : Below W.heap.size W W') : NewB W' v lo := by
  obtain ⟨g, x0, x1, x2, h1, h2, h3⟩ := h
  exact ⟨g, x0, x1, x2, h1, h2.next hb, h3⟩
/-- A pointer to a box that holds the number. -/
def BxP (W : World) (v : Value) (lo : Nat) (d : Dyadic) : Prop := ∃ g : Nat, v = .pointer (some ⟨g, 0, none⟩) ∧ Bx W g d ∧ lo ≤ g
theorem BxP.below {W W' : World} {v : Value} {lo : Nat} {d : Dyadic} (h : BxP W v lo d) (hb : Below W.heap.size W W') : BxP W' v lo d := by
  obtain ⟨g, h1, h2, h3⟩ := h
  exact ⟨g, h1, h2.below hb, h3⟩
end Go.Proofs.Ytodoibioedelgaa
/-
GemvClose: the exact numbers, their sizes, the comparison; boxes of numbers. Conditions: as each says.
-/
set_option linter.unusedVariables false
set_option linter.unusedSimpArgs false
set_option linter.unnecessarySimpa false
namespace Go.Proofs.Ytodoibioedelgaa
open Go.RowKit
attribute [local go_sem ↓] Go.wp_at_zero Go.wp_at_succ

/-- The exact number after so many columns, and the sum without signs. -/
def Ed (y : Nat) (t x : Nat → Nat) : Nat → Dyadic
  | 0 => fdy y
  | k + 1 => Ed y t x k + fdy (t k) * fdy (x k)
def Sd (y : Nat) (t x : Nat → Nat) : Nat → Dyadic
  | 0 => dabs (fdy y)
  | k + 1 => Sd y t x k + dabs (fdy (t k) * fdy (x k))
theorem fdy_2148 (b K : Nat) (hK : K = 1074) : fdy b = dy (Fl.val b * 2 ^ K) (-2148) := by unfold fdy; rw [dy_pow]; congr 1; omega
theorem ed_dy (y : Nat) (t x : Nat → Nat) (n K : Nat) (hK : K = 1074) : ∀ k, k ≤ n → Ed y t x k = dy (Fl.val y * 2 ^ K + dotE (tabL t n) (tabL x n) k) (-2148)
  | 0, _ => by
    show fdy y = dy (Fl.val y * 2 ^ K + 0) (-2148)
    rw [Int.add_zero, fdy_2148 y K hK]
  | k + 1, h => by
    show Ed y t x k + fdy (t k) * fdy (x k) = dy (Fl.val y * 2 ^ K + (dotE (tabL t n) (tabL x n) k + Fl.val ((tabL t n).getD k 0) * Fl.val ((tabL x n).getD k 0))) (-2148)
    rw [ed_dy y t x n K hK k (by omega), fdy_mul, dy_add, tabL_getD t (by omega), tabL_getD x (by omega), Int.add_assoc]
theorem sd_dy (y : Nat) (t x : Nat → Nat) (n K : Nat) (hK : K = 1074) : ∀ k, k ≤ n → Sd y t x k = dy (((Fl.val y * 2 ^ K).natAbs : Int) + ((dotA (tabL t n) (tabL x n) k : Nat) : Int)) (-2148)
  | 0, _ => by
    show dabs (fdy y) = dy (((Fl.val y * 2 ^ K).natAbs : Int) + ((0 : Nat) : Int)) (-2148)
    rw [fdy_2148 y K hK, dabs_dy]
    simp
  | k + 1, h => by
    show Sd y t x k + dabs (fdy (t k) * fdy (x k)) = dy (((Fl.val y * 2 ^ K).natAbs : Int) + ((dotA (tabL t n) (tabL x n) k + (Fl.val ((tabL t n).getD k 0) * Fl.val ((tabL x n).getD k 0)).natAbs : Nat) : Int)) (-2148)
    rw [sd_dy y t x n K hK k (by omega), fdy_mul, dabs_dy, dy_add, tabL_getD t (by omega), tabL_getD x (by omega), Int.natCast_add, Int.add_assoc]
theorem ed_sz {y : Nat} {t x : Nat → Nat} {n : Nat} (hy : Fl.rung y < Fl.INF) (ht : ∀ k, k < n → Fl.rung (t k) < Fl.INF) (hx : ∀ k, k < n → Fl.rung (x k) < Fl.INF) : ∀ k, k ≤ n → Sz (2149 + k) (Ed y t x k) ∧ Sz (2149 + k) (Sd y t x k)
  | 0, _ => ⟨(Sz.float hy).mono (by omega), ((Sz.float hy).abs).mono (by omega)⟩
  | k + 1, h => by
    obtain ⟨h1, h2⟩ := ed_sz hy ht hx k (by omega)
    have hp : Sz 2148 (fdy (t k) * fdy (x k)) := (Sz.float (ht k (by omega))).mul (Sz.float (hx k (by omega))) (by omega)
    exact ⟨Sz.add h1 hp (by omega) (by omega), Sz.add h2 hp.abs (by omega) (by omega)⟩
/-- The comparison comes out. -/
theorem gemv_cmp {y z : Nat} {t x : Nat → Nat} {n : Nat} (h : 4503599627370496 * (Fl.val z * ((2 ^ 1074 : Nat) : Int) - (Fl.val y * ((2 ^ 1074 : Nat) : Int) + dotE (tabL t n) (tabL x n) n)).natAbs ≤ (n + 1) * ((Fl.val y).natAbs * 2 ^ 1074 + dotA (tabL t n) (tabL x n) n + 4503599627370496 * 2 ^ 1074)) :
    ∃ Z : Int, dabs (fdy z - Ed y t x n) - ((Sd y t x n * dy 1 (-51) + dy 1 0 * dy 1 (-1070)) * dy ((n : Int) + 1) 0) = dy Z (-2199) ∧ Z ≤ 0 := by
  obtain ⟨K, hK⟩ : ∃ K, K = 1074 := ⟨_, rfl⟩
  rw [← hK] at h
  rw [ed_dy y t x n K hK n (Nat.le_refl _), sd_dy y t x n K hK n (Nat.le_refl _), fdy_2148 z K hK, dy_sub, dabs_dy, dy_one, dy_one, show ((-2148 : Int) + -51) = -2199 by omega]
  have e3 : dy 1 (0 + -1070) = dy (1 * 2 ^ (K + 55)) (-2199) := by rw [dy_pow]; congr 1; omega
  have e4 : ∀ q : Int, dy q (-2148) = dy (q * 2 ^ 51) (-2199) := fun q => by rw [dy_pow]; congr 1
  rw [e3, dy_add, dy_mul, Int.add_zero, e4, dy_sub]
  refine ⟨_, rfl, ?_⟩
  have e2 : ((2 ^ K : Nat) : Int) = (2 : Int) ^ K := by simp
  rw [e2] at h
  have e6 : (Fl.val y * 2 ^ K).natAbs = (Fl.val y).natAbs * 2 ^ K := by rw [Int.natAbs_mul, Int.natAbs_pow]; rfl
  rw [← e6] at h
  have e5 : (1 : Int) * 2 ^ (K + 55) = ((36028797018963968 * 2 ^ K : Nat) : Int) := by
    rw [Int.one_mul, Int.pow_add]
    have : (2 : Int) ^ 55 = 36028797018963968 := by decide
    rw [this]
    simp [Int.mul_comm]
  have e7 : (2 : Int) ^ 51 = 2251799813685248 := by decide
  rw [e5, e7]
  generalize (Fl.val z * 2 ^ K - (Fl.val y * 2 ^ K + dotE (tabL t n) (tabL x n) n)).natAbs = D at *
  generalize (Fl.val y * 2 ^ K).natAbs = A at *
  generalize dotA (tabL t n) (tabL x n) n = B at *
  generalize 2 ^ K = P at *
  have h1 : (n + 1) * (A + B + 4503599627370496 * P) = (n + 1) * (A + B) + 4503599627370496 * ((n + 1) * P) := by rw [Nat.mul_add, Nat.mul_left_comm]
  have h2 : (A + B + 36028797018963968 * P) * (n + 1) = (n + 1) * (A + B) + 36028797018963968 * ((n + 1) * P) := by rw [Nat.add_mul, Nat.mul_comm (A + B), Nat.mul_assoc, Nat.mul_comm P]
  have h3 : ∀ V : Nat, ((A : Int) + (B : Int) + (V : Int)) * ((n : Int) + 1) = (((A + B + V) * (n + 1) : Nat) : Int) := fun V => by push_cast; rfl
  rw [h1] at h
  rw [h3, h2]
  generalize (n + 1) * (A + B) = U at *
  generalize (n + 1) * P = V at *
  clear h1 h2 h3
  omega
/-! ### Boxes of numbers. -/
theorem ptr_ne {g p : Nat} (h : Value.pointer (some ⟨g, 0, none⟩) ≠ .pointer (some ⟨p, 0, none⟩)) : g ≠ p := fun e => h (by rw [e])
section
variable {W W' : World} {p : Nat} {x0 x1 x2 : Value}
theorem DV.far3 {v : Value} {d : Dyadic} (h : DV W v d) (hB : Blk W p 52 #[x0, x1, x2]) (u0 u1 u2 : Value) : DV (((W.setCell ⟨p, 0, none⟩ u0).setCell ⟨p, 1, none⟩ u1).setCell ⟨p, 2, none⟩ u2) v d :=
  ((h.far hB (by decide) 0 _).far (hB.set_ 0 _) (by decide) 1 _).far ((hB.set_ 0 _).set_ 1 _) (by decide) 2 _
theorem Bx.far3 {g : Nat} {d : Dyadic} (h : Bx W g d) (hne : g ≠ p) (hB : Blk W p 52 #[x0, x1, x2]) (u0 u1 u2 : Value) : Bx (((W.setCell ⟨p, 0, none⟩ u0).setCell ⟨p, 1, none⟩ u1).setCell ⟨p, 2, none⟩ u2) g d := by
  obtain ⟨neg, A, n, c, E, l, h1, h2, h3, h4⟩ := h
  exact ⟨neg, A, n, c, E, l, ((h1.other (p := ⟨p, 0, none⟩) hne _).other (p := ⟨p, 1, none⟩) hne _).other (p := ⟨p, 2, none⟩) hne _, ((h2.far hB (by decide) 0 _).far (hB.set_ 0 _) (by decide) 1 _).far ((hB.set_ 0 _).set_ 1 _) (by decide) 2 _, h3, h4⟩
theorem BxP.far3 {v : Value} {lo : Nat} {d : Dyadic} (h : BxP W v lo d) (hne : v ≠ .pointer (some ⟨p, 0, none⟩)) (hB : Blk W p 52 #[x0, x1, x2]) (u0 u1 u2 : Value) : BxP (((W.setCell ⟨p, 0, none⟩ u0).setCell ⟨p, 1, none⟩ u1).setCell ⟨p, 2, none⟩ u2) v lo d := by
  obtain ⟨g, rfl, h1, h2⟩ := h
  exact ⟨g, rfl, h1.far3 (ptr_ne hne) hB _ _ _, h2⟩
theorem NewB.far3 {v : Value} {lo : Nat} (h : NewB W v lo) (hne : v ≠ .pointer (some ⟨p, 0, none⟩)) (u0 u1 u2 : Value) : NewB (((W.setCell ⟨p, 0, none⟩ u0).setCell ⟨p, 1, none⟩ u1).setCell ⟨p, 2, none⟩ u2) v lo := by
  obtain ⟨g, y0, y1, y2, rfl, h1, h2⟩ := h
  have hg := ptr_ne hne
  exact ⟨g, y0, y1, y2, rfl, ((h1.other (p := ⟨p, 0, none⟩) hg _).other (p := ⟨p, 1, none⟩) hg _).other (p := ⟨p, 2, none⟩) hg _, h2⟩
theorem NewB.new_ne {v : Value} {lo : Nat} (h : NewB W v lo) : v ≠ .pointer (some ⟨W.heap.size, 0, none⟩) := by
  obtain ⟨g, y0, y1, y2, rfl, h1, h2⟩ := h
  intro e
  injection e with e; injection e with e; injection e with e
  have := h1.lt
  omega
end
end Go.Proofs.Ytodoibioedelgaa
