/-
TrsvSolves: spans; what its walk holds of boxes and lists. Conditions: as each says.
-/
import Derived.Test.YtlhdcajamempoaaZTrJ
import Derived.Test.YtlhdcajamempoaaRan
set_option linter.unusedVariables false
set_option linter.unusedSimpArgs false
set_option linter.unnecessarySimpa false
namespace Go.Proofs.Ytlhdcajamempoaa
open Go.RowKit
attribute [local go_sem ↓] Go.wp_at_zero Go.wp_at_succ

/-- Two stretches have a place in common. -/
def spB (a b c d : Int) : Bool := decide (a ≤ b) && decide (c ≤ d) && decide (a ≤ d) && decide (c ≤ b)
theorem spans_any (a b c d : Int) (w : World) : Calls Try.prog 25 #[.int .i64 a, .int .i64 b, .int .i64 c, .int .i64 d] w fun e w' => e = .returned (.bool (spB a b c d)) ∧ w = w' := by
  unfold spB
  obtain ⟨x1, h1⟩ : ∃ x, decide (a ≤ b) = x := ⟨_, rfl⟩
  obtain ⟨x2, h2⟩ : ∃ x, decide (c ≤ d) = x := ⟨_, rfl⟩
  obtain ⟨x3, h3⟩ : ∃ x, decide (a ≤ d) = x := ⟨_, rfl⟩
  obtain ⟨x4, h4⟩ : ∃ x, decide (c ≤ b) = x := ⟨_, rfl⟩
  rw [h1, h2, h3, h4]
  cases x1
  · go_enter Try.func25, Try.ntmps25
    go_wp2_with fail
    go_ret
    exact ⟨rfl, rfl⟩
  cases x2
  · go_enter Try.func25, Try.ntmps25
    go_wp2_with fail
    go_ret
    exact ⟨rfl, rfl⟩
  cases x3
  · go_enter Try.func25, Try.ntmps25
    go_wp2_with fail
    go_ret
    exact ⟨rfl, rfl⟩
  cases x4 <;>
  · go_enter Try.func25, Try.ntmps25
    go_wp2_with fail
    go_ret
    exact ⟨rfl, rfl⟩
/-- From, to, of a vector, of a matrix. -/
def vsA (o K : Nat) : Int := if K = 0 then 0 else (o : Int)
def vsB (o K i : Nat) : Int := if K = 0 then -1 else ((o + (K - 1) * i : Nat) : Int)
def msA (o R C : Nat) : Int := if R = 0 ∨ C = 0 then 0 else (o : Int)
def msB (o R C L : Nat) : Int := if R = 0 ∨ C = 0 then -1 else ((o + (C - 1) * L + (R - 1) : Nat) : Int)
theorem wr2 {q : Nat} (h : q < 1048578) : wrap64 (q : Int) = (q : Int) ∧ IntKind.i64.wrap (q : Int) = (q : Int) := ⟨by unfold wrap64; omega, wrapi (by omega) (by omega)⟩
theorem beq0 (R : Nat) : (R == 0) = ((R : Int) == 0) := by
  cases R with
  | zero => rfl
  | succ n =>
    have : ((n + 1 : Nat) : Int) ≠ 0 := by omega
    rw [beq_eq_false_iff_ne.2 (Nat.succ_ne_zero n), beq_eq_false_iff_ne.2 this]
theorem vspan_facts {o K i n : Nat} (hn : n < 1048576) (hKb : K < 1048576) (e : K ≠ 0) (hr : o + (K - 1) * i < n) : ∃ k p P : Nat, o + (K - 1) * i = P ∧ (K : Int) - 1 = (k : Int) ∧ ((k : Int) * (i : Int)) = (p : Int) ∧ (o : Int) + (p : Int) = (P : Int) ∧
    (wrap64 (k : Int) = (k : Int) ∧ IntKind.i64.wrap (k : Int) = (k : Int)) ∧ (wrap64 (p : Int) = (p : Int) ∧ IntKind.i64.wrap (p : Int) = (p : Int)) ∧ (wrap64 (P : Int) = (P : Int) ∧ IntKind.i64.wrap (P : Int) = (P : Int)) := by
  have h1 : (((K - 1 : Nat) : Int) * (i : Int)) = (((K - 1) * i : Nat) : Int) := (Int.natCast_mul _ _).symm
  refine ⟨K - 1, (K - 1) * i, o + (K - 1) * i, rfl, by omega, h1, ?_, wr2 (by omega), ?_, ?_⟩
  · generalize (K - 1) * i = p; omega
  · generalize (K - 1) * i = p at *; exact wr2 (by omega)
  · generalize (K - 1) * i = p at *; exact wr2 (by omega)
theorem mspan_facts {o R C L n : Nat} (hn : n < 1048576) (hRb : R < 1048576) (hCb : C < 1048576) (eR : R ≠ 0) (eC : C ≠ 0) (hr : o + (C - 1) * L + (R - 1) < n) : ∃ k p P S S' : Nat, o + (C - 1) * L + (R - 1) = S' ∧ (C : Int) - 1 = (k : Int) ∧ ((k : Int) * (L : Int)) = (p : Int) ∧ (o : Int) + (p : Int) = (P : Int) ∧ (P : Int) + (R : Int) = (S : Int) ∧ (S : Int) - 1 = (S' : Int) ∧
    (wrap64 (k : Int) = (k : Int) ∧ IntKind.i64.wrap (k : Int) = (k : Int)) ∧ (wrap64 (p : Int) = (p : Int) ∧ IntKind.i64.wrap (p : Int) = (p : Int)) ∧ (wrap64 (P : Int) = (P : Int) ∧ IntKind.i64.wrap (P : Int) = (P : Int)) ∧ (wrap64 (S : Int) = (S : Int) ∧ IntKind.i64.wrap (S : Int) = (S : Int)) ∧ (wrap64 (S' : Int) = (S' : Int) ∧ IntKind.i64.wrap (S' : Int) = (S' : Int)) := by
  have h1 : (((C - 1 : Nat) : Int) * (L : Int)) = (((C - 1) * L : Nat) : Int) := (Int.natCast_mul _ _).symm
  refine ⟨C - 1, (C - 1) * L, o + (C - 1) * L, o + (C - 1) * L + R, o + (C - 1) * L + (R - 1), rfl, by omega, h1, ?_⟩
  clear h1
  generalize (C - 1) * L = p at *
  exact ⟨by omega, by omega, by omega, wr2 (by omega), wr2 (by omega), wr2 (by omega), wr2 (by omega), wr2 (by omega)⟩
set_option maxHeartbeats 1000000 in
theorem vspan_any (A : Option Addr) (n c o K i : Nat) (w : World) (hn : n < 1048576) (hKb : K < 1048576) (hr : K = 0 ∨ o + (K - 1) * i < n) :
    Calls Try.prog 20 #[vec A n c o K i] w fun e w' => e = .returned (.tuple #[.int .i64 (vsA o K), .int .i64 (vsB o K i)]) ∧ Below w.heap.size w w' := by
  have HB := Lib.hid ((Below.refl w.heap.size w).alloc (Nat.le_refl _) (.cells #[.slice A n c, .int .i64 o, .int .i64 K, .int .i64 i] 32))
  unfold vsA vsB
  by_cases e : K = 0
  · subst e
    rw [if_pos rfl, if_pos rfl]
    unfold vec
    have t1 : (((0 : Nat) : Int) == 0) = true := rfl
    go_enter Try.func20, Try.ntmps20
    go_wp2_with fail
    go_ret2
    exact ⟨rfl, HB.out⟩
  · rw [if_neg e, if_neg e]
    obtain ⟨k, p, P, hP, e1, e2, e3, ⟨a1, a2⟩, ⟨b1, b2⟩, ⟨c1, c2⟩⟩ := vspan_facts (i := i) hn hKb e (hr.resolve_left e)
    rw [hP]
    have t1 : ((K : Int) == 0) = false := by simp [e]
    have t2 : (K == 0) = false := by simp [e]
    clear e hr hP hKb hn
    unfold vec
    go_enter Try.func20, Try.ntmps20
    go_wp2_with fail
    go_quiet (fail)
    go_wp2_with fail
    go_ret2
    exact ⟨rfl, below_drewN HB.out _⟩
set_option maxHeartbeats 1000000 in
set_option maxHeartbeats 1000000 in
theorem mspan_any (A : Option Addr) (n c o R C L : Nat) (w : World) (hn : n < 1048576) (hRb : R < 1048576) (hCb : C < 1048576) (hr : R = 0 ∨ C = 0 ∨ o + (C - 1) * L + (R - 1) < n) :
    Calls Try.prog 21 #[mat A n c o R C L] w fun e w' => e = .returned (.tuple #[.int .i64 (msA o R C), .int .i64 (msB o R C L)]) ∧ Below w.heap.size w w' := by
  have HB := Lib.hid ((Below.refl w.heap.size w).alloc (Nat.le_refl _) (.cells #[.slice A n c, .int .i64 o, .int .i64 R, .int .i64 C, .int .i64 L] 26))
  unfold msA msB
  by_cases e : R = 0 ∨ C = 0
  · rw [if_pos e, if_pos e]
    obtain ⟨x, hx⟩ : ∃ x, ((R : Int) == 0) = x := ⟨_, rfl⟩
    obtain ⟨y, hy⟩ : ∃ y, ((C : Int) == 0) = y := ⟨_, rfl⟩
    have hxn : (R == 0) = x := by rw [← hx]; exact beq0 R
    have hyn : (C == 0) = y := by rw [← hy]; exact beq0 C
    have hxy : x = true ∨ y = true := by
      rcases e with h | h
      · left; rw [← hx]; simp [h]
      · right; rw [← hy]; simp [h]
    clear e hr
    cases x
    · have hy1 : y = true := by simpa using hxy
      subst hy1
      clear hxy
      unfold mat
      go_enter Try.func21, Try.ntmps21
      go_wp2_with fail
      go_ret2
      exact ⟨rfl, HB.out⟩
    · clear hxy hy hyn y
      unfold mat
      go_enter Try.func21, Try.ntmps21
      go_wp2_with fail
      go_ret2
      exact ⟨rfl, HB.out⟩
  · rw [if_neg e, if_neg e]
    have eR : R ≠ 0 := fun h => e (.inl h)
    have eC : C ≠ 0 := fun h => e (.inr h)
    have hr2 : o + (C - 1) * L + (R - 1) < n := (hr.resolve_left eR).resolve_left eC
    obtain ⟨k, p, P, S, S', hS', e1, e2, e3, e4, e5, ⟨a1, a2⟩, ⟨b1, b2⟩, ⟨c1, c2⟩, ⟨d1, d2⟩, ⟨f1, f2⟩⟩ := mspan_facts (L := L) hn hRb hCb eR eC hr2
    rw [hS']
    have t1 : ((R : Int) == 0) = false := by simp [eR]
    have t2 : (R == 0) = false := by simp [eR]
    have t3 : ((C : Int) == 0) = false := by simp [eC]
    have t4 : (C == 0) = false := by simp [eC]
    clear e hr hr2 hS' eR eC hn hRb hCb
    unfold mat
    go_enter Try.func21, Try.ntmps21
    go_wp2_with fail
    go_quiet (fail)
    go_wp2_with fail
    go_ret2
    exact ⟨rfl, below_drewN HB.out _⟩
theorem cast_off {o K i : Nat} (h : K ≠ 0) : (o : Int) + ((K : Int) - 1) * (i : Int) = ((o + (K - 1) * i : Nat) : Int) := by
  have e : (K : Int) - 1 = ((K - 1 : Nat) : Int) := by omega
  rw [e]
  simp
theorem last_mat {o R C L : Nat} (hR : R ≠ 0) (hC : C ≠ 0) : lastI (o : Int) (R : Int) (C : Int) (L : Int) = ((o + (C - 1) * L + (R - 1) : Nat) : Int) := by
  unfold lastI
  have e : (R : Int) - 1 = ((R - 1 : Nat) : Int) := by omega
  have := cast_off (o := o) (K := C) (i := L) hC
  rw [e]
  generalize ((C : Int) - 1) * (L : Int) = p at *
  generalize (C - 1) * L = q at *
  omega
theorem row_right {n o K i : Nat} (hi : 1 ≤ i) (hr : K = 0 ∨ o + (K - 1) * i < n) : matB n (o : Int) 1 (K : Int) (i : Int) = true := by
  have := mat_right (n := n) (o := o) (R := 1) (C := K) (L := i) hi hi (by
    rcases hr with h | h
    · exact .inr (.inl h)
    · exact .inr (.inr (by simpa using h)))
  exact this
theorem met_m {n o K i nm om R C L : Nat} (hi : 1 ≤ i) (hr : K = 0 ∨ o + (K - 1) * i < n) (hL1 : 1 ≤ L) (hRL : R ≤ L) (hmr : R = 0 ∨ C = 0 ∨ om + (C - 1) * L + (R - 1) < nm) :
    (bothB n (o : Int) 1 (K : Int) (i : Int) nm (om : Int) (R : Int) (C : Int) (L : Int) && (decide ((o : Int) ≤ lastI (om : Int) (R : Int) (C : Int) (L : Int)) && decide ((om : Int) ≤ lastI (o : Int) 1 (K : Int) (i : Int)))) = spB (vsA o K) (vsB o K i) (msA om R C) (msB om R C L) := by
  unfold bothB spB vsA vsB msA msB
  rw [row_right hi hr, mat_right hL1 hRL hmr]
  by_cases hK : K = 0
  · simp [hK]
  · by_cases hE : R = 0 ∨ C = 0
    · rw [if_neg hK, if_neg hK, if_pos hE, if_pos hE]
      have : (!((R : Int) == 0 || (C : Int) == 0)) = false := by
        rcases hE with h | h <;> simp [h]
      rw [this]
      simp
    · have hR : R ≠ 0 := fun h => hE (.inl h)
      have hC : C ≠ 0 := fun h => hE (.inr h)
      have e1 := last_mat (o := om) (R := R) (C := C) (L := L) hR hC
      have e2 := last_mat (o := o) (R := 1) (C := K) (L := i) (by omega) hK
      rw [Nat.sub_self, Nat.add_zero] at e2
      rw [if_neg hK, if_neg hK, if_neg hE, if_neg hE, e1, show lastI (o : Int) 1 (K : Int) (i : Int) = _ from e2]
      have t1 : (!((1 : Int) == 0 || (K : Int) == 0)) = true := by simp [hK]
      have t2 : (!((R : Int) == 0 || (C : Int) == 0)) = true := by simp [hR, hC]
      rw [t1, t2]
      generalize (C - 1) * L = p
      generalize (K - 1) * i = q
      have d1 : decide ((o : Int) ≤ ((o + q : Nat) : Int)) = true := decide_eq_true (by omega)
      have d2 : decide ((om : Int) ≤ ((om + p + (R - 1) : Nat) : Int)) = true := decide_eq_true (by omega)
      rw [d1, d2]
      simp
theorem sp_far_m {o K i om R C L : Nat} (h : spB (vsA o K) (vsB o K i) (msA om R C) (msB om R C L) = false) : ∀ a, a < R → ∀ b, b < C → ∀ q, q < K → om + b * L + a ≠ o + q * i := by
  intro a ha b hb q hq e
  have hb2 : b * L ≤ (C - 1) * L := Nat.mul_le_mul_right L (by omega)
  have hq2 : q * i ≤ (K - 1) * i := Nat.mul_le_mul_right i (by omega)
  unfold spB vsA vsB msA msB at h
  rw [if_neg (by omega), if_neg (by omega), if_neg (by omega), if_neg (by omega)] at h
  generalize b * L = p at *
  generalize (C - 1) * L = p' at *
  generalize q * i = t at *
  generalize (K - 1) * i = t' at *
  have d1 : decide ((o : Int) ≤ ((o + t' : Nat) : Int)) = true := decide_eq_true (by omega)
  have d2 : decide ((om : Int) ≤ ((om + p' + (R - 1) : Nat) : Int)) = true := decide_eq_true (by omega)
  have d3 : decide ((o : Int) ≤ ((om + p' + (R - 1) : Nat) : Int)) = true := decide_eq_true (by omega)
  have d4 : decide ((om : Int) ≤ ((o + t' : Nat) : Int)) = true := decide_eq_true (by omega)
  rw [d1, d2, d3, d4] at h
  cases h
theorem kpv {d : Nat → Bool} {i j : Nat} {s : Nat → Value} {k : Nat} {dst : Option Nat} {v x : Value} (h : d j = true → s k = x) (hj : j ≠ i) (hk : dst ≠ some k) : did d i j = true → sput s dst v k = x := fun e => by
  rw [did_ne d hj] at e
  unfold sput
  rw [if_neg hk]
  exact h e

theorem kpw {d : Nat → Bool} {i j : Nat} {s : Nat → Value} {k : Nat} {dst : Option Nat} {v x : Value} (h : d j = true → s k = x) (hj : j ≠ i := by decide) (hk : dst ≠ some k := by decide) : did d i j = true → sput s dst v k = x := kpv h hj hk
/-- A list in memory of its own, in a matrix, in a vector. -/
def OwM (W : World) (v : Value) (z : Nat) (l : List Nat) (n : Nat) (mo mr mk ml : Int) : Prop := ∃ g c, v = .agg #[.slice (some ⟨g, 0, none⟩) n c, .int .i64 mo, .int .i64 mr, .int .i64 mk, .int .i64 ml] ∧ Own W g l ∧ z ≤ g
def OwV (W : World) (v : Value) (z : Nat) (l : List Nat) (n : Nat) (xo xk xi : Int) : Prop := ∃ g c, v = .agg #[.slice (some ⟨g, 0, none⟩) n c, .int .i64 xo, .int .i64 xk, .int .i64 xi] ∧ Own W g l ∧ z ≤ g
/-- A box in the making. -/
def NbM (W : World) (v : Value) (z : Nat) : Prop := ∃ p x0 x1 x2 x3 x4, v = .pointer (some ⟨p, 0, none⟩) ∧ Blk W p 26 #[x0, x1, x2, x3, x4] ∧ z ≤ p
def NbV (W : World) (v : Value) (z : Nat) : Prop := ∃ p x0 x1 x2 x3, v = .pointer (some ⟨p, 0, none⟩) ∧ Blk W p 32 #[x0, x1, x2, x3] ∧ z ≤ p
/-- A box that is made. -/
def PkM (W : World) (v : Value) (z : Nat) (l : List Nat) (n : Nat) (mo mr mk ml : Int) : Prop := ∃ p g c, v = .pointer (some ⟨p, 0, none⟩) ∧ Blk W p 26 #[.slice (some ⟨g, 0, none⟩) n c, .int .i64 mo, .int .i64 mr, .int .i64 mk, .int .i64 ml] ∧ Own W g l ∧ z ≤ p ∧ z ≤ g
def PkV (W : World) (v : Value) (z : Nat) (l : List Nat) (n : Nat) (xo xk xi : Int) : Prop := ∃ p g c, v = .pointer (some ⟨p, 0, none⟩) ∧ Blk W p 32 #[.slice (some ⟨g, 0, none⟩) n c, .int .i64 xo, .int .i64 xk, .int .i64 xi] ∧ Own W g l ∧ z ≤ p ∧ z ≤ g
def PkZ (W : World) (v : Value) (z : Nat) (A : Option Addr) (n c : Nat) (off k inc : Int) : Prop := ∃ p, v = .pointer (some ⟨p, 0, none⟩) ∧ Blk W p 32 #[.slice A n c, .int .i64 off, .int .i64 k, .int .i64 inc] ∧ z ≤ p
section
variable {W W' : World} {v : Value} {z n c : Nat} {l : List Nat} {mo mr mk ml xo xk xi off k inc : Int} {A : Option Addr}
theorem OwM.below (h : OwM W v z l n mo mr mk ml) (hb : Below W.heap.size W W') : OwM W' v z l n mo mr mk ml := by
  obtain ⟨g, c, h1, h2, h3⟩ := h; exact ⟨g, c, h1, h2.nxt hb, h3⟩
theorem OwV.below (h : OwV W v z l n xo xk xi) (hb : Below W.heap.size W W') : OwV W' v z l n xo xk xi := by
  obtain ⟨g, c, h1, h2, h3⟩ := h; exact ⟨g, c, h1, h2.nxt hb, h3⟩
theorem NbM.below (h : NbM W v z) (hb : Below W.heap.size W W') : NbM W' v z := by
  obtain ⟨p, x0, x1, x2, x3, x4, h1, h2, h3⟩ := h; exact ⟨p, x0, x1, x2, x3, x4, h1, h2.nxt hb, h3⟩
theorem NbV.below (h : NbV W v z) (hb : Below W.heap.size W W') : NbV W' v z := by
  obtain ⟨p, x0, x1, x2, x3, h1, h2, h3⟩ := h; exact ⟨p, x0, x1, x2, x3, h1, h2.nxt hb, h3⟩
theorem PkM.below (h : PkM W v z l n mo mr mk ml) (hb : Below W.heap.size W W') : PkM W' v z l n mo mr mk ml := by
  obtain ⟨p, g, c, h1, h2, h3, h4⟩ := h; exact ⟨p, g, c, h1, h2.nxt hb, h3.nxt hb, h4⟩
theorem PkV.below (h : PkV W v z l n xo xk xi) (hb : Below W.heap.size W W') : PkV W' v z l n xo xk xi := by
  obtain ⟨p, g, c, h1, h2, h3, h4⟩ := h; exact ⟨p, g, c, h1, h2.nxt hb, h3.nxt hb, h4⟩
theorem PkZ.below (h : PkZ W v z A n c off k inc) (hb : Below W.heap.size W W') : PkZ W' v z A n c off k inc := by
  obtain ⟨p, h1, h2, h3⟩ := h; exact ⟨p, h1, h2.nxt hb, h3⟩
theorem own_off {g p : Nat} (h : Own W g l) (hne : g ≠ p) (hb : ∀ k, k ≠ p → W'.heap[k]? = W.heap[k]?) : Own W' g l := by
  obtain ⟨cs, hB, ht⟩ := h
  exact ⟨cs, (hb g hne).trans hB, ht⟩
variable {p : Nat} {t : TypeId} {cs : Array Value}
theorem OwM.far (h : OwM W v z l n mo mr mk ml) (hB : Blk W p t cs) (ht : t ≠ 28) (hb : ∀ k, k ≠ p → W'.heap[k]? = W.heap[k]?) : OwM W' v z l n mo mr mk ml := by
  obtain ⟨g, c, h1, h2, h3⟩ := h; exact ⟨g, c, h1, own_off h2 (own_ne h2 hB ht) hb, h3⟩
theorem OwV.far (h : OwV W v z l n xo xk xi) (hB : Blk W p t cs) (ht : t ≠ 28) (hb : ∀ k, k ≠ p → W'.heap[k]? = W.heap[k]?) : OwV W' v z l n xo xk xi := by
  obtain ⟨g, c, h1, h2, h3⟩ := h; exact ⟨g, c, h1, own_off h2 (own_ne h2 hB ht) hb, h3⟩
theorem NbM.far (h : NbM W v z) (hne : v ≠ .pointer (some ⟨p, 0, none⟩)) (hb : ∀ k, k ≠ p → W'.heap[k]? = W.heap[k]?) : NbM W' v z := by
  obtain ⟨q, x0, x1, x2, x3, x4, h1, h2, h3⟩ := h; exact ⟨q, x0, x1, x2, x3, x4, h1, (hb q (fun e => hne (by rw [h1, e]))).trans h2, h3⟩
theorem NbV.far (h : NbV W v z) (hne : v ≠ .pointer (some ⟨p, 0, none⟩)) (hb : ∀ k, k ≠ p → W'.heap[k]? = W.heap[k]?) : NbV W' v z := by
  obtain ⟨q, x0, x1, x2, x3, h1, h2, h3⟩ := h; exact ⟨q, x0, x1, x2, x3, h1, (hb q (fun e => hne (by rw [h1, e]))).trans h2, h3⟩
theorem NbM.ne_ (h : NbM W v z) (hB : Blk W p t cs) (ht : 26 ≠ t) : v ≠ .pointer (some ⟨p, 0, none⟩) := by
  obtain ⟨q, x0, x1, x2, x3, x4, h1, h2, h3⟩ := h
  intro e
  rw [h1] at e
  injection e with e; injection e with e; injection e with e
  exact blk_ne h2 hB ht e
theorem NbV.ne_ (h : NbV W v z) (hB : Blk W p t cs) (ht : 32 ≠ t) : v ≠ .pointer (some ⟨p, 0, none⟩) := by
  obtain ⟨q, x0, x1, x2, x3, h1, h2, h3⟩ := h
  intro e
  rw [h1] at e
  injection e with e; injection e with e; injection e with e
  exact blk_ne h2 hB ht e
theorem NbV.new_ne (h : NbV W v z) : v ≠ .pointer (some ⟨W.heap.size, 0, none⟩) := by
  obtain ⟨q, x0, x1, x2, x3, h1, h2, h3⟩ := h
  intro e
  rw [h1] at e
  injection e with e; injection e with e; injection e with e
  have := h2.lt
  omega
theorem PkM.far (h : PkM W v z l n mo mr mk ml) (hB : Blk W p t cs) (ht : t ≠ 28) (hne : v ≠ .pointer (some ⟨p, 0, none⟩)) (hb : ∀ k, k ≠ p → W'.heap[k]? = W.heap[k]?) : PkM W' v z l n mo mr mk ml := by
  obtain ⟨q, g, c, h1, h2, h3, h4⟩ := h
  exact ⟨q, g, c, h1, (hb q (fun e => hne (by rw [h1, e]))).trans h2, own_off h3 (own_ne h3 hB ht) hb, h4⟩
theorem PkV.far (h : PkV W v z l n xo xk xi) (hB : Blk W p t cs) (ht : t ≠ 28) (hne : v ≠ .pointer (some ⟨p, 0, none⟩)) (hb : ∀ k, k ≠ p → W'.heap[k]? = W.heap[k]?) : PkV W' v z l n xo xk xi := by
  obtain ⟨q, g, c, h1, h2, h3, h4⟩ := h
  exact ⟨q, g, c, h1, (hb q (fun e => hne (by rw [h1, e]))).trans h2, own_off h3 (own_ne h3 hB ht) hb, h4⟩
theorem PkZ.far (h : PkZ W v z A n c off k inc) (hne : v ≠ .pointer (some ⟨p, 0, none⟩)) (hb : ∀ k, k ≠ p → W'.heap[k]? = W.heap[k]?) : PkZ W' v z A n c off k inc := by
  obtain ⟨q, h1, h2, h3⟩ := h
  exact ⟨q, h1, (hb q (fun e => hne (by rw [h1, e]))).trans h2, h3⟩
end
theorem wds_of_getD {l : List Nat} (h : ∀ k, k < l.length → l.getD k 0 < 18446744073709551616) : Wds l := by
  intro b hb
  obtain ⟨k, hk, rfl⟩ := List.mem_iff_getElem.1 hb
  rw [← getD_of_lt hk]
  exact h k hk
theorem wds_lstg {l : List Nat} (h : Wds l) (o i K : Nat) : Wds (lst l o i K) := by
  refine wds_of_getD fun k hk => ?_
  rw [lst_length] at hk
  rw [lst_getD l o i hk]
  exact tr_wds h _
/-- A table, a slice, of which this holds. -/
def TbG (W : World) (v : Value) (S : List Nat → Prop) (r k N : Nat) : Prop := ∃ g c T, v = .agg #[.int .i64 (r : Int), .int .i64 (k : Int), .slice (some ⟨g, 0, none⟩) N c] ∧ S T ∧ Row W (some ⟨g, 0, none⟩) (f64s T)
def SlG (W : World) (v : Value) (S : List Nat → Prop) (N : Nat) : Prop := ∃ B d X, v = .slice B N d ∧ S X ∧ Row W B (f64s X)
theorem TbG.below {W W' : World} {v : Value} {S : List Nat → Prop} {r k N : Nat} (h : TbG W v S r k N) (hb : Below W.heap.size W W') : TbG W' v S r k N := by
  obtain ⟨g, c, T, h1, h2, h3⟩ := h; exact ⟨g, c, T, h1, h2, Row.below h3 hb⟩
theorem SlG.below {W W' : World} {v : Value} {S : List Nat → Prop} {N : Nat} (h : SlG W v S N) (hb : Below W.heap.size W W') : SlG W' v S N := by
  obtain ⟨B, d, X, h1, h2, h3⟩ := h; exact ⟨B, d, X, h1, h2, Row.below h3 hb⟩
theorem row_ltg {W : World} {g N : Nat} {T : List Nat} (h : Row W (some ⟨g, 0, none⟩) (f64s T)) (hl : T.length = N) (hN : N ≠ 0) : g < W.heap.size := by
  have h0 : 0 < T.length := by omega
  obtain ⟨b, x, e, _, hc⟩ := h.at_ (f64s_get T 0 h0)
  injection e with e; injection e with e _; subst e
  exact block_lt hc
theorem tab_wds2 {l T : List Nat} {o R C L N : Nat} (h : Tab l o R C L N T) (hN : R * C = N) (hl : Wds l) : Wds T := by
  refine wds_of_getD fun x hx => ?_
  rw [h.1] at hx
  have hC : 0 < C := by
    rcases Nat.eq_zero_or_pos C with e | e
    · subst e; simp at hx
    · exact e
  have hi : x / C < R := Nat.div_lt_of_lt_mul (by rw [Nat.mul_comm]; exact hx)
  have e : x / C * C + x % C = x := by rw [Nat.mul_comm]; exact Nat.div_add_mod x C
  have h1 := tab_get h hN hi (Nat.mod_lt x hC)
  rw [e] at h1
  rw [h1]; exact tr_wds hl _
/-- The block of a vector's or a matrix' list. -/
def lbs (v : Option Value) : Nat := match v with | some (Value.slice (some ad) _ _) => ad.block | _ => 0
def lb (v : Value) : Nat := match v with | Value.agg a => lbs (a[0]?) | _ => 0
theorem lb_mat (g n c : Nat) (a b d e : Value) : lb (.agg #[.slice (some ⟨g, 0, none⟩) n c, a, b, d, e]) = g := rfl
theorem lb_vec (g n c : Nat) (a b d : Value) : lb (.agg #[.slice (some ⟨g, 0, none⟩) n c, a, b, d]) = g := rfl
theorem OwM.lb_lt {W : World} {v : Value} {z n : Nat} {l : List Nat} {mo mr mk ml : Int} (h : OwM W v z l n mo mr mk ml) : lb v < W.heap.size := by
  obtain ⟨g, c, rfl, h2, _⟩ := h; exact h2.lt
theorem OwV.lb_lt {W : World} {v : Value} {z n : Nat} {l : List Nat} {mo mr mk : Int} (h : OwV W v z l n mo mr mk) : lb v < W.heap.size := by
  obtain ⟨g, c, rfl, h2, _⟩ := h; exact h2.lt
/-- A box that is made, of a list in block g. -/
def PqM (W : World) (v : Value) (g z : Nat) (l : List Nat) (n : Nat) (mo mr mk ml : Int) : Prop := ∃ p c, v = .pointer (some ⟨p, 0, none⟩) ∧ Blk W p 26 #[.slice (some ⟨g, 0, none⟩) n c, .int .i64 mo, .int .i64 mr, .int .i64 mk, .int .i64 ml] ∧ Own W g l ∧ z ≤ p ∧ z ≤ g
def PqV (W : World) (v : Value) (g z : Nat) (l : List Nat) (n : Nat) (xo xk xi : Int) : Prop := ∃ p c, v = .pointer (some ⟨p, 0, none⟩) ∧ Blk W p 32 #[.slice (some ⟨g, 0, none⟩) n c, .int .i64 xo, .int .i64 xk, .int .i64 xi] ∧ Own W g l ∧ z ≤ p ∧ z ≤ g
section
variable {W W' : World} {v : Value} {g z n : Nat} {l : List Nat} {mo mr mk ml xo xk xi : Int} {p : Nat} {t : TypeId} {cs : Array Value}
theorem PqM.below (h : PqM W v g z l n mo mr mk ml) (hb : Below W.heap.size W W') : PqM W' v g z l n mo mr mk ml := by
  obtain ⟨p, c, h1, h2, h3, h4⟩ := h; exact ⟨p, c, h1, h2.nxt hb, h3.nxt hb, h4⟩
theorem PqV.below (h : PqV W v g z l n xo xk xi) (hb : Below W.heap.size W W') : PqV W' v g z l n xo xk xi := by
  obtain ⟨p, c, h1, h2, h3, h4⟩ := h; exact ⟨p, c, h1, h2.nxt hb, h3.nxt hb, h4⟩
theorem PqM.far (h : PqM W v g z l n mo mr mk ml) (hB : Blk W p t cs) (ht : t ≠ 28) (hne : v ≠ .pointer (some ⟨p, 0, none⟩)) (hb : ∀ k, k ≠ p → W'.heap[k]? = W.heap[k]?) : PqM W' v g z l n mo mr mk ml := by
  obtain ⟨q, c, h1, h2, h3, h4⟩ := h
  exact ⟨q, c, h1, (hb q (fun e => hne (by rw [h1, e]))).trans h2, own_off h3 (own_ne h3 hB ht) hb, h4⟩
theorem PqV.far (h : PqV W v g z l n xo xk xi) (hB : Blk W p t cs) (ht : t ≠ 28) (hne : v ≠ .pointer (some ⟨p, 0, none⟩)) (hb : ∀ k, k ≠ p → W'.heap[k]? = W.heap[k]?) : PqV W' v g z l n xo xk xi := by
  obtain ⟨q, c, h1, h2, h3, h4⟩ := h
  exact ⟨q, c, h1, (hb q (fun e => hne (by rw [h1, e]))).trans h2, own_off h3 (own_ne h3 hB ht) hb, h4⟩
end
theorem apart_c (A : Option Addr) (n c : Nat) (l : List Nat) (mo mr mk ml : Int) (w : World) (hA : Row w A (f64s l)) (hl : l.length = n) (hn : n ≤ 1000) (W : World) (hb : Below w.heap.size w W) :
    Calls Try.prog 15 #[mat A n c mo mr mk ml] W fun e w' => ∃ g c', e = .returned (mat (some ⟨g, 0, none⟩) n c' mo mr mk ml) ∧ Own w' g l ∧ W.heap.size ≤ g ∧ Below W.heap.size W w' := by
  have := rapart_any A c l mo mr mk ml W (hA.below hb) (by omega)
  rw [hl] at this
  exact this.mono fun e w' ⟨g, c', e1, e2, e3, _, _, e4⟩ => ⟨g, c', e1, e2, e3, e4⟩
theorem alone_c (A : Option Addr) (n c : Nat) (l : List Nat) (xo xk xi : Int) (w : World) (hA : Row w A (f64s l)) (hl : l.length = n) (hn : n ≤ 1000) (W : World) (hb : Below w.heap.size w W) :
    Calls Try.prog 16 #[vec A n c xo xk xi] W fun e w' => ∃ g c', e = .returned (vec (some ⟨g, 0, none⟩) n c' xo xk xi) ∧ Own w' g l ∧ W.heap.size ≤ g ∧ Below W.heap.size W w' := by
  have := ralone_any A c l xo xk xi W (hA.below hb) (by omega)
  rw [hl] at this
  exact this.mono fun e w' ⟨g, c', e1, e2, e3, _, _, e4⟩ => ⟨g, c', e1, e2, e3, e4⟩
theorem all_c (l : List Nat) (n : Nat) (hW : Wds l) (hl : l.length = n) (hn : n ≤ 1000) (W : World) (A B : Option Addr) (c d : Nat) (h1 : Row W A (f64s l)) (h2 : Row W B (f64s l)) :
    Calls Try.prog 26 #[.slice A n c, .slice B n d] W fun e w' => e = .returned (.bool true) ∧ Below W.heap.size W w' := by
  have := rall_any A B c d l l W hW hW h1 h2 (by omega) (Alike.refl l)
  rw [hl] at this; exact this
/-- A slice, whatever is in it. -/
def SlZ (W : World) (v : Value) (R : Nat) : Prop := ∃ B d, v = .slice B R d
theorem SlZ.below {W W' : World} {v : Value} {R : Nat} (h : SlZ W v R) (hb : Below W.heap.size W W') : SlZ W' v R := h
/-- A slice and a truth, of which this holds. -/
def TpS (W : World) (t : Value) (S : List Nat → Prop) (R : Nat) : Prop := ∃ v, t = .tuple #[v, .bool true] ∧ SlG W v S R
def TpZ (W : World) (t : Value) (R : Nat) (b : Bool) : Prop := ∃ v, t = .tuple #[v, .bool b] ∧ SlZ W v R
theorem TpS.below {W W' : World} {t : Value} {S : List Nat → Prop} {R : Nat} (h : TpS W t S R) (hb : Below W.heap.size W W') : TpS W' t S R := by
  obtain ⟨v, h1, h2⟩ := h; exact ⟨v, h1, h2.below hb⟩
theorem TpZ.below {W W' : World} {t : Value} {R : Nat} {b : Bool} (h : TpZ W t R b) (hb : Below W.heap.size W W') : TpZ W' t R b := h
/-- Numbers written at a vector's places. -/
theorem trl_wrt {l m : List Nat} {o i K : Nat} {F : Nat → Nat} (hi : 1 ≤ i) (hr : K = 0 ∨ o + (K - 1) * i < l.length) (hm : m.length = K ∧ ∀ p, p < K → Is (m.getD p 0) (F p)) : TrL l o i K F (wrt l o i m K) :=
  ⟨wrt_length l o i m K, fun p hp => by rw [wrt_at l o i m K hi hr hp]; exact hm.2 p hp, fun x hx => wrt_else l o i m K hx⟩
end Go.Proofs.Ytlhdcajamempoaa
