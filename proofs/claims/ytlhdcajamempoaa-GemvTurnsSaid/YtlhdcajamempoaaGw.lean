/-
The document's spans, and which error. Conditions: as each says.
-/
import Derived.Test.YtlhdcajamempoaaZGvD
import Derived.Test.YtlhdcajamempoaaZVwM
import Derived.Test.YtlhdcajamempoaaGh
import Derived.Test.YtlhdcajamempoaaZMvN
import Derived.Test.YtlhdcajamempoaaGv
import Derived.Test.YtlhdcajamempoaaZMvH
import Derived.Test.YtlhdcajamempoaaZVwC
set_option linter.unusedVariables false
set_option linter.unusedSimpArgs false
set_option linter.unnecessarySimpa false
namespace Go.Proofs.Ytlhdcajamempoaa
open Go.RowKit
attribute [local go_sem ↓] Go.wp_at_zero Go.wp_at_succ

/-- Two stretches have a place in common. -/
def spB (a b c d : Int) : Bool := decide (a ≤ b) && decide (c ≤ d) && decide (a ≤ d) && decide (c ≤ b)
theorem spans_any (a b c d : Int) (w : World) : Calls Try.prog 25 #[.int .i64 a, .int .i64 b, .int .i64 c, .int .i64 d] w fun e w' => e = .returned (.bool (spB a b c d)) ∧ w = w' := by
  unfold spB
  obtain ⟨x1, h1⟩ : ∃ x, decide (a ≤ b) = x := ⟨_, rfl⟩
  obtain ⟨x2, h2⟩ : ∃ x, decide (c ≤ d) = x := ⟨_, rfl⟩
  obtain ⟨x3, h3⟩ : ∃ x, decide (a ≤ d) = x := ⟨_, rfl⟩
  obtain ⟨x4, h4⟩ : ∃ x, decide (c ≤ b) = x := ⟨_, rfl⟩
  rw [h1, h2, h3, h4]
  cases x1
  · go_enter Try.func25, Try.ntmps25
    go_wp2_with fail
    go_ret
    exact ⟨rfl, rfl⟩
  cases x2
  · go_enter Try.func25, Try.ntmps25
    go_wp2_with fail
    go_ret
    exact ⟨rfl, rfl⟩
  cases x3
  · go_enter Try.func25, Try.ntmps25
    go_wp2_with fail
    go_ret
    exact ⟨rfl, rfl⟩
  cases x4 <;>
  · go_enter Try.func25, Try.ntmps25
    go_wp2_with fail
    go_ret
    exact ⟨rfl, rfl⟩
/-- From, to, of a vector, of a matrix. -/
def vsA (o K : Nat) : Int := if K = 0 then 0 else (o : Int)
def vsB (o K i : Nat) : Int := if K = 0 then -1 else ((o + (K - 1) * i : Nat) : Int)
def msA (o R C : Nat) : Int := if R = 0 ∨ C = 0 then 0 else (o : Int)
def msB (o R C L : Nat) : Int := if R = 0 ∨ C = 0 then -1 else ((o + (C - 1) * L + (R - 1) : Nat) : Int)
theorem wr2 {q : Nat} (h : q < 1048578) : wrap64 (q : Int) = (q : Int) ∧ IntKind.i64.wrap (q : Int) = (q : Int) := ⟨by unfold wrap64; omega, wrapi (by omega) (by omega)⟩
theorem beq0 (R : Nat) : (R == 0) = ((R : Int) == 0) := by
  cases R with
  | zero => rfl
  | succ n =>
    have : ((n + 1 : Nat) : Int) ≠ 0 := by omega
    rw [beq_eq_false_iff_ne.2 (Nat.succ_ne_zero n), beq_eq_false_iff_ne.2 this]
theorem vspan_facts {o K i n : Nat} (hn : n < 1048576) (hKb : K < 1048576) (e : K ≠ 0) (hr : o + (K - 1) * i < n) : ∃ k p P : Nat, o + (K - 1) * i = P ∧ (K : Int) - 1 = (k : Int) ∧ ((k : Int) * (i : Int)) = (p : Int) ∧ (o : Int) + (p : Int) = (P : Int) ∧
    (wrap64 (k : Int) = (k : Int) ∧ IntKind.i64.wrap (k : Int) = (k : Int)) ∧ (wrap64 (p : Int) = (p : Int) ∧ IntKind.i64.wrap (p : Int) = (p : Int)) ∧ (wrap64 (P : Int) = (P : Int) ∧ IntKind.i64.wrap (P : Int) = (P : Int)) := by
  have h1 : (((K - 1 : Nat) : Int) * (i : Int)) = (((K - 1) * i : Nat) : Int) := (Int.natCast_mul _ _).symm
  refine ⟨K - 1, (K - 1) * i, o + (K - 1) * i, rfl, by omega, h1, ?_, wr2 (by omega), ?_, ?_⟩
  · generalize (K - 1) * i = p; omega
  · generalize (K - 1) * i = p at *; exact wr2 (by omega)
  · generalize (K - 1) * i = p at *; exact wr2 (by omega)
theorem mspan_facts {o R C L n : Nat} (hn : n < 1048576) (hRb : R < 1048576) (hCb : C < 1048576) (eR : R ≠ 0) (eC : C ≠ 0) (hr : o + (C - 1) * L + (R - 1) < n) : ∃ k p P S S' : Nat, o + (C - 1) * L + (R - 1) = S' ∧ (C : Int) - 1 = (k : Int) ∧ ((k : Int) * (L : Int)) = (p : Int) ∧ (o : Int) + (p : Int) = (P : Int) ∧ (P : Int) + (R : Int) = (S : Int) ∧ (S : Int) - 1 = (S' : Int) ∧
    (wrap64 (k : Int) = (k : Int) ∧ IntKind.i64.wrap (k : Int) = (k : Int)) ∧ (wrap64 (p : Int) = (p : Int) ∧ IntKind.i64.wrap (p : Int) = (p : Int)) ∧ (wrap64 (P : Int) = (P : Int) ∧ IntKind.i64.wrap (P : Int) = (P : Int)) ∧ (wrap64 (S : Int) = (S : Int) ∧ IntKind.i64.wrap (S : Int) = (S : Int)) ∧ (wrap64 (S' : Int) = (S' : Int) ∧ IntKind.i64.wrap (S' : Int) = (S' : Int)) := by
  have h1 : (((C - 1 : Nat) : Int) * (L : Int)) = (((C - 1) * L : Nat) : Int) := (Int.natCast_mul _ _).symm
  refine ⟨C - 1, (C - 1) * L, o + (C - 1) * L, o + (C - 1) * L + R, o + (C - 1) * L + (R - 1), rfl, by omega, h1, ?_⟩
  clear h1
  generalize (C - 1) * L = p at *
  exact ⟨by omega, by omega, by omega, wr2 (by omega), wr2 (by omega), wr2 (by omega), wr2 (by omega), wr2 (by omega)⟩
set_option maxHeartbeats 1000000 in
theorem vspan_any (A : Option Addr) (n c o K i : Nat) (w : World) (hn : n < 1048576) (hKb : K < 1048576) (hr : K = 0 ∨ o + (K - 1) * i < n) :
    Calls Try.prog 20 #[vec A n c o K i] w fun e w' => e = .returned (.tuple #[.int .i64 (vsA o K), .int .i64 (vsB o K i)]) ∧ Below w.heap.size w w' := by
  have HB := Lib.hid ((Below.refl w.heap.size w).alloc (Nat.le_refl _) (.cells #[.slice A n c, .int .i64 o, .int .i64 K, .int .i64 i] 32))
  unfold vsA vsB
  by_cases e : K = 0
  · subst e
    rw [if_pos rfl, if_pos rfl]
    unfold vec
    have t1 : (((0 : Nat) : Int) == 0) = true := rfl
    go_enter Try.func20, Try.ntmps20
    go_wp2_with fail
    go_ret2
    exact ⟨rfl, HB.out⟩
  · rw [if_neg e, if_neg e]
    obtain ⟨k, p, P, hP, e1, e2, e3, ⟨a1, a2⟩, ⟨b1, b2⟩, ⟨c1, c2⟩⟩ := vspan_facts (i := i) hn hKb e (hr.resolve_left e)
    rw [hP]
    have t1 : ((K : Int) == 0) = false := by simp [e]
    have t2 : (K == 0) = false := by simp [e]
    clear e hr hP hKb hn
    unfold vec
    go_enter Try.func20, Try.ntmps20
    go_wp2_with fail
    go_quiet (fail)
    go_wp2_with fail
    go_ret2
    exact ⟨rfl, below_drewN HB.out _⟩
set_option maxHeartbeats 1000000 in
theorem mspan_any (A : Option Addr) (n c o R C L : Nat) (w : World) (hn : n < 1048576) (hRb : R < 1048576) (hCb : C < 1048576) (hr : R = 0 ∨ C = 0 ∨ o + (C - 1) * L + (R - 1) < n) :
    Calls Try.prog 21 #[mat A n c o R C L] w fun e w' => e = .returned (.tuple #[.int .i64 (msA o R C), .int .i64 (msB o R C L)]) ∧ Below w.heap.size w w' := by
  have HB := Lib.hid ((Below.refl w.heap.size w).alloc (Nat.le_refl _) (.cells #[.slice A n c, .int .i64 o, .int .i64 R, .int .i64 C, .int .i64 L] 26))
  unfold msA msB
  by_cases e : R = 0 ∨ C = 0
  · rw [if_pos e, if_pos e]
    obtain ⟨x, hx⟩ : ∃ x, ((R : Int) == 0) = x := ⟨_, rfl⟩
    obtain ⟨y, hy⟩ : ∃ y, ((C : Int) == 0) = y := ⟨_, rfl⟩
    have hxn : (R == 0) = x := by rw [← hx]; exact beq0 R
    have hyn : (C == 0) = y := by rw [← hy]; exact beq0 C
    have hxy : x = true ∨ y = true := by
      rcases e with h | h
      · left; rw [← hx]; simp [h]
      · right; rw [← hy]; simp [h]
    clear e hr
    cases x
    · have hy1 : y = true := by simpa using hxy
      subst hy1
      clear hxy
      unfold mat
      go_enter Try.func21, Try.ntmps21
      go_wp2_with fail
      go_ret2
      exact ⟨rfl, HB.out⟩
    · clear hxy hy hyn y
      unfold mat
      go_enter Try.func21, Try.ntmps21
      go_wp2_with fail
      go_ret2
      exact ⟨rfl, HB.out⟩
  · rw [if_neg e, if_neg e]
    have eR : R ≠ 0 := fun h => e (.inl h)
    have eC : C ≠ 0 := fun h => e (.inr h)
    have hr2 : o + (C - 1) * L + (R - 1) < n := (hr.resolve_left eR).resolve_left eC
    obtain ⟨k, p, P, S, S', hS', e1, e2, e3, e4, e5, ⟨a1, a2⟩, ⟨b1, b2⟩, ⟨c1, c2⟩, ⟨d1, d2⟩, ⟨f1, f2⟩⟩ := mspan_facts (L := L) hn hRb hCb eR eC hr2
    rw [hS']
    have t1 : ((R : Int) == 0) = false := by simp [eR]
    have t2 : (R == 0) = false := by simp [eR]
    have t3 : ((C : Int) == 0) = false := by simp [eC]
    have t4 : (C == 0) = false := by simp [eC]
    clear e hr hr2 hS' eR eC hn hRb hCb
    unfold mat
    go_enter Try.func21, Try.ntmps21
    go_wp2_with fail
    go_quiet (fail)
    go_wp2_with fail
    go_ret2
    exact ⟨rfl, below_drewN HB.out _⟩
end Go.Proofs.Ytlhdcajamempoaa
/-
The document's Check. Conditions: as each says.
-/
set_option linter.unusedVariables false
set_option linter.unusedSimpArgs false
set_option linter.unnecessarySimpa false
namespace Go.Proofs.Ytlhdcajamempoaa
open Go.RowKit
attribute [local go_sem ↓] Go.wp_at_zero Go.wp_at_succ

end Go.Proofs.Ytlhdcajamempoaa
/-
Words for slices that a walk holds in its slots. Conditions: none.
-/
set_option linter.unusedVariables false
namespace Go.Proofs.Ytlhdcajamempoaa
open Go.RowKit

/-- The value is a slice that reads as the list. -/
def SlR (W : World) (v : Value) (n : Nat) (X : List Nat) : Prop := ∃ B d, v = .slice B n d ∧ Row W B (f64s X)
theorem SlR.below {W W' : World} {v : Value} {n : Nat} {X : List Nat} (h : SlR W v n X) (hb : Below W.heap.size W W') : SlR W' v n X := by
  obtain ⟨B, d, e, r⟩ := h
  exact ⟨B, d, e, r.below hb⟩
/-- The value is a slice of n numbers of which this holds. -/
def SlM (W : World) (v : Value) (n : Nat) (R : Nat → Nat → Prop) : Prop := ∃ m : List Nat, m.length = n ∧ (∀ q, q < n → R q (m.getD q 0)) ∧ SlR W v n m
theorem SlM.below {W W' : World} {v : Value} {n : Nat} {R : Nat → Nat → Prop} (h : SlM W v n R) (hb : Below W.heap.size W W') : SlM W' v n R := by
  obtain ⟨m, e, f, r⟩ := h
  exact ⟨m, e, f, r.below hb⟩
/-- The value is a slice of a list of its own of which this holds. -/
def SlO (W : World) (v : Value) (n : Nat) (S : List Nat → Prop) : Prop := ∃ g c m, v = .slice (some ⟨g, 0, none⟩) n c ∧ S m ∧ Own W g m
theorem SlO.below {W W' : World} {v : Value} {n : Nat} {S : List Nat → Prop} (h : SlO W v n S) (hb : Below W.heap.size W W') : SlO W' v n S := by
  obtain ⟨g, c, m, e, f, r⟩ := h
  exact ⟨g, c, m, e, f, r.nxt hb⟩
end Go.Proofs.Ytlhdcajamempoaa
/-
Gemv: the pure numbers of a product; the document's example. Conditions: as each says.
-/
set_option linter.unusedVariables false
set_option linter.unusedSimpArgs false
set_option linter.unnecessarySimpa false
namespace Go.Proofs.Ytlhdcajamempoaa
open Go.RowKit
attribute [local go_sem ↓] Go.wp_at_zero Go.wp_at_succ

theorem gv_alike_set {x y : List Nat} (h : Alike x y) (i a b : Nat) (hab : sameB a b = true) : Alike (x.set i a) (y.set i b) := by
  refine ⟨by rw [List.length_set, List.length_set]; exact h.1, fun j hj hj' => ?_⟩
  by_cases e : i = j
  · subst e
    rw [List.getElem_set_self, List.getElem_set_self]
    exact hab
  · rw [List.getElem_set_ne e, List.getElem_set_ne e]
    exact h.2 j _ _
theorem gv_alike_wrt (l : List Nat) (o i : Nat) {m m' : List Nat} : ∀ K, (∀ q, q < K → sameB (m.getD q 0) (m'.getD q 0) = true) → Alike (wrt l o i m K) (wrt l o i m' K)
  | 0, _ => Alike.refl l
  | K + 1, h => gv_alike_set (gv_alike_wrt l o i (m := m) (m' := m') K (fun q hq => h q (by omega))) (o + K * i) _ _ (h K (by omega))
theorem gv_wds_wrt {l m : List Nat} (hl : Wds l) (o i : Nat) : ∀ K, (∀ q, q < K → m.getD q 0 < 18446744073709551616) → Wds (wrt l o i m K)
  | 0, _ => hl
  | K + 1, h => wds_set (gv_wds_wrt hl o i K (fun q hq => h q (by omega))) _ (h K (by omega))
/-- Numbers added one behind the other. -/
def chnF (z : Nat) (f : Nat → Nat) : Nat → Nat
  | 0 => z
  | k + 1 => fbin .add (chnF z f k) (f k)
theorem chnF_congr (z : Nat) {f f' : Nat → Nat} : ∀ k, (∀ j, j < k → f j = f' j) → chnF z f k = chnF z f' k
  | 0, _ => rfl
  | k + 1, h => by
    show fbin .add _ _ = fbin .add _ _
    rw [chnF_congr z k (fun j hj => h j (by omega)), h k (by omega)]
theorem Chn.is_ {S : Nat → Nat → Nat → Prop} {y z : Nat} {f : Nat → Nat} (hy : Is y z) : ∀ {k r : Nat}, (∀ j, j < k → ∀ s r, S j s r → ∃ p, Is p (f j) ∧ Comes .add s p r) → Chn S y k r → Is r (chnF z f k)
  | 0, r, _, h => by
    obtain rfl : r = y := h
    exact hy
  | k + 1, r, hS, h => by
    obtain ⟨s, h1, h2⟩ := h
    obtain ⟨p, h3, h4⟩ := hS k (by omega) s r h2
    exact h4.is_ (Chn.is_ hy (fun j hj => hS j (by omega)) h1) h3
theorem MulR.is_ {a n f r : Nat} (ha : a < 18446744073709551616) (hn : n < 18446744073709551616) (hf : f < 18446744073709551616) (h : MulR a n f r) : Is r (fbin .mul (fbin .mul a f) n) := by
  obtain ⟨p, h1, h2⟩ := h
  exact h2.is_ (h1.is_ (Is.refl ha) (Is.refl hf)) (Is.refl hn)
theorem absW_lt2 (b : Nat) : absW b < 18446744073709551616 := by have := absW_lt b; omega
theorem AbsR.is_ {n f r : Nat} (h : AbsR n f r) : Is r (fbin .mul (absW n) (absW f)) := Comes.is_ h (Is.refl (absW_lt2 _)) (Is.refl (absW_lt2 _))
theorem TurnR.is_ {a D s r z : Nat} (ha : a < 18446744073709551616) (hs : Is s z) (h : TurnR a D s r) : Is r (fbin .add z (fbin .mul a D)) := by
  obtain ⟨d, p, h1, h2, h3⟩ := h
  exact h3.is_ hs (h2.is_ (Is.refl ha) h1)
theorem MulQ.is_ {a b : Nat} {l : List Nat} {o i : Nat} {lm : List Nat} {om C L : Nat} {lx : List Nat} {ox ix q r : Nat} (ha : a < 18446744073709551616) (hb : b < 18446744073709551616) (hW : Wds l) (hWm : Wds lm) (hWx : Wds lx) (h : MulQ a b l o i lm om C L lx ox ix q r) :
    Is r (chnF (begF b (l.getD (o + q * i) 0)) (fun k => fbin .mul (fbin .mul a (lx.getD (ox + k * ix) 0)) (lm.getD (om + k * L + q) 0)) C) := by
  obtain ⟨s, h1, h2⟩ := h
  exact Chn.is_ (h1.is_ hb (Is.refl (getD_wds hW _))) (fun j _ s r hS => by
    obtain ⟨p, k1, k2⟩ := hS
    exact ⟨p, MulR.is_ ha (getD_wds hWm _) (getD_wds hWx _) k1, k2⟩) h2
theorem RMulQ.is_ {a b : Nat} {T : List Nat} {C : Nat} {X Y : List Nat} {q r : Nat} (ha : a < 18446744073709551616) (hb : b < 18446744073709551616) (hT : Wds T) (hX : Wds X) (hY : Wds Y) (h : RMulQ a b T C X Y q r) :
    Is r (chnF (begF b (Y.getD q 0)) (fun k => fbin .mul (fbin .mul a (X.getD k 0)) (T.getD (q * C + k) 0)) C) := by
  obtain ⟨s, h1, h2⟩ := h
  exact Chn.is_ (h1.is_ hb (Is.refl (getD_wds hY _))) (fun j _ s r hS => by
    obtain ⟨p, k1, k2⟩ := hS
    exact ⟨p, MulR.is_ ha (getD_wds hT _) (getD_wds hX _) k1, k2⟩) h2
theorem AbsQ.is_ {l : List Nat} {o i : Nat} {lm : List Nat} {om C L : Nat} {lx : List Nat} {ox ix q r : Nat} (hW : Wds l) (h : AbsQ l o i lm om C L lx ox ix q r) :
    Is r (chnF (l.getD (o + q * i) 0) (fun k => fbin .mul (absW (lm.getD (om + k * L + q) 0)) (absW (lx.getD (ox + k * ix) 0))) C) :=
  Chn.is_ (Is.refl (getD_wds hW _)) (fun j _ s r hS => by
    obtain ⟨p, k1, k2⟩ := hS
    exact ⟨p, AbsR.is_ k1, k2⟩) h
theorem RAbsQ.is_ {T : List Nat} {C : Nat} {X Y : List Nat} {q r : Nat} (hY : Wds Y) (h : RAbsQ T C X Y q r) :
    Is r (chnF (Y.getD q 0) (fun k => fbin .mul (absW (T.getD (q * C + k) 0)) (absW (X.getD k 0))) C) :=
  Chn.is_ (Is.refl (getD_wds hY _)) (fun j _ s r hS => by
    obtain ⟨p, k1, k2⟩ := hS
    exact ⟨p, AbsR.is_ k1, k2⟩) h
/-- By the program and by the document. -/
theorem mul_same {a b : Nat} {l : List Nat} {o i K : Nat} {lm : List Nat} {om R C L N : Nat} {lx : List Nat} {ox ix q r r' : Nat} {T : List Nat} (ha : a < 18446744073709551616) (hb : b < 18446744073709551616) (hW : Wds l) (hWm : Wds lm) (hWx : Wds lx) (hWT : Wds T)
    (hT : Tab lm om R C L N T) (hN : R * C = N) (hq : q < R) (hqK : q < K) (h : MulQ a b l o i lm om C L lx ox ix q r) (h' : RMulQ a b T C (lst lx ox ix C) (lst l o i K) q r') : sameB r r' = true := by
  have e1 := h.is_ ha hb hW hWm hWx
  have e2 := h'.is_ ha hb hWT (wds_lst2 hWx _ _ _) (wds_lst2 hW _ _ _)
  rw [lst_getD l o i hqK] at e2
  have := chnF_congr (begF b (l.getD (o + q * i) 0)) (f := fun k => fbin .mul (fbin .mul a (lx.getD (ox + k * ix) 0)) (lm.getD (om + k * L + q) 0)) (f' := fun k => fbin .mul (fbin .mul a ((lst lx ox ix C).getD k 0)) (T.getD (q * C + k) 0)) C (fun j hj => by
    show fbin .mul (fbin .mul a (lx.getD (ox + j * ix) 0)) (lm.getD (om + j * L + q) 0) = fbin .mul (fbin .mul a ((lst lx ox ix C).getD j 0)) (T.getD (q * C + j) 0)
    rw [lst_getD lx ox ix hj, tab_get hT hN hq hj, Nat.add_right_comm])
  rw [this] at e1
  exact e1.same e2
theorem abs_same {l : List Nat} {o i K : Nat} {lm : List Nat} {om R C L N : Nat} {lx : List Nat} {ox ix q r r' : Nat} {T : List Nat} (hW : Wds l)
    (hT : Tab lm om R C L N T) (hN : R * C = N) (hq : q < R) (hqK : q < K) (h : AbsQ l o i lm om C L lx ox ix q r) (h' : RAbsQ T C (lst lx ox ix C) (lst l o i K) q r') : sameB r r' = true := by
  have e1 := h.is_ hW
  have e2 := h'.is_ (wds_lst2 hW _ _ _)
  rw [lst_getD l o i hqK] at e2
  have := chnF_congr (l.getD (o + q * i) 0) (f := fun k => fbin .mul (absW (lm.getD (om + k * L + q) 0)) (absW (lx.getD (ox + k * ix) 0))) (f' := fun k => fbin .mul (absW (T.getD (q * C + k) 0)) (absW ((lst lx ox ix C).getD k 0))) C (fun j hj => by
    show fbin .mul (absW (lm.getD (om + j * L + q) 0)) (absW (lx.getD (ox + j * ix) 0)) = fbin .mul (absW (T.getD (q * C + j) 0)) (absW ((lst lx ox ix C).getD j 0))
    rw [lst_getD lx ox ix hj, tab_get hT hN hq hj, Nat.add_right_comm])
  rw [this] at e1
  exact e1.same e2
theorem turn_same {a b : Nat} {l : List Nat} {o i K : Nat} {lm : List Nat} {om R C L N : Nat} {lx : List Nat} {ox ix q r r' : Nat} {T : List Nat} (ha : a < 18446744073709551616) (hb : b < 18446744073709551616) (hW : Wds l)
    (hT : Tab lm om R C L N T) (hN : R * C = N) (hq : q < C) (hqK : q < K) (h : TurnQ a b l o i lm om R L lx ox ix q r) (h' : RTurnQ a b T R C (lst lx ox ix R) (lst l o i K) q r') : sameB r r' = true := by
  obtain ⟨s, h1, h2⟩ := h
  obtain ⟨s', k1, k2⟩ := h'
  rw [lst_getD l o i hqK] at k1
  have e : lst T q C R = lst lm (om + q * L) 1 R := ext_getD (by rw [lst_length, lst_length]) fun j hj => by
    rw [lst_length] at hj
    rw [lst_getD T q C hj, lst_getD lm _ 1 hj, Nat.add_comm, tab_get hT hN hj hq, Nat.mul_one, Nat.add_right_comm]
  rw [e] at k2
  exact (TurnR.is_ ha (h1.is_ hb (Is.refl (getD_wds hW _))) h2).same (TurnR.is_ ha (k1.is_ hb (Is.refl (getD_wds hW _))) k2)
theorem MulQ.lt {a b : Nat} {l : List Nat} {o i : Nat} {lm : List Nat} {om C L : Nat} {lx : List Nat} {ox ix q r : Nat} (ha : a < 18446744073709551616) (hb : b < 18446744073709551616) (hW : Wds l) (hWm : Wds lm) (hWx : Wds lx) (h : MulQ a b l o i lm om C L lx ox ix q r) : r < 18446744073709551616 := (h.is_ ha hb hW hWm hWx).lt
theorem RMulQ.lt {a b : Nat} {T : List Nat} {C : Nat} {X Y : List Nat} {q r : Nat} (ha : a < 18446744073709551616) (hb : b < 18446744073709551616) (hT : Wds T) (hX : Wds X) (hY : Wds Y) (h : RMulQ a b T C X Y q r) : r < 18446744073709551616 := (h.is_ ha hb hT hX hY).lt
theorem AbsQ.lt {l : List Nat} {o i : Nat} {lm : List Nat} {om C L : Nat} {lx : List Nat} {ox ix q r : Nat} (hW : Wds l) (h : AbsQ l o i lm om C L lx ox ix q r) : r < 18446744073709551616 := (h.is_ hW).lt
theorem RAbsQ.lt {T : List Nat} {C : Nat} {X Y : List Nat} {q r : Nat} (hY : Wds Y) (h : RAbsQ T C X Y q r) : r < 18446744073709551616 := (h.is_ hY).lt
theorem TurnQ.lt {a b : Nat} {l : List Nat} {o i : Nat} {lm : List Nat} {om R L : Nat} {lx : List Nat} {ox ix q r : Nat} (h : TurnQ a b l o i lm om R L lx ox ix q r) : r < 18446744073709551616 := by
  obtain ⟨s, _, d, p, _, _, h3⟩ := h
  exact h3.1
theorem RTurnQ.lt {a b : Nat} {T : List Nat} {R C : Nat} {X Y : List Nat} {q r : Nat} (h : RTurnQ a b T R C X Y q r) : r < 18446744073709551616 := by
  obtain ⟨s, _, d, p, _, _, h3⟩ := h
  exact h3.1
/-! ### The document's example. -/
def ex99 : List Nat := [4621256167635550208, 4621256167635550208]
def ex56v : List Nat := [4617315517961601024, 4618441417868443648]
def ex1234 : List Nat := [4607182418800017408, 4611686018427387904, 4613937818241073152, 4616189618054758400]
def exD : List Nat := [4607182418800017408, 4613937818241073152, 4611686018427387904, 4616189618054758400]
def ex1739 : List Nat := [4625478292286210048, 4630685579355357184]
theorem ex1739_wds : Wds ex1739 := by intro b hb; simp [ex1739] at hb; omega
theorem exD_wds : Wds exD := by intro b hb; simp [exD] at hb; omega
theorem ex99_wds : Wds ex99 := by intro b hb; simp [ex99] at hb; omega
theorem ex56v_wds : Wds ex56v := by intro b hb; simp [ex56v] at hb; omega
theorem ex_f0 : chnF (begF 0 4621256167635550208) (fun k => fbin .mul (fbin .mul 4607182418800017408 (ex56v.getD (0 + k * 1) 0)) (exD.getD (0 + k * 2 + 0) 0)) 2 = 4625478292286210048 := by decide +kernel
theorem ex_f1 : chnF (begF 0 4621256167635550208) (fun k => fbin .mul (fbin .mul 4607182418800017408 (ex56v.getD (0 + k * 1) 0)) (exD.getD (0 + k * 2 + 1) 0)) 2 = 4630685579355357184 := by decide +kernel
theorem ex_dense {M : List Nat} (h : Dense ex1234 2 2 M) : M = exD := by
  obtain ⟨h1, h2⟩ := h
  have a0 := h2 0 (by omega)
  have a1 := h2 1 (by omega)
  have a2 := h2 2 (by omega)
  have a3 := h2 3 (by omega)
  simp [spot] at a0 a1 a2 a3
  match M, h1 with
  | [x0, x1, x2, x3], _ => simp [ex1234] at a0 a1 a2 a3; simp [exD, a0, a1, a2, a3]
theorem ex_mul {m : List Nat} (hl : m.length = 2) (h : ∀ q, q < 2 → MulQ 4607182418800017408 0 ex99 0 1 exD 0 2 2 ex56v 0 1 q (m.getD q 0)) : m = ex1739 := by
  have h0 := (h 0 (by omega)).is_ (by omega) (by omega) ex99_wds exD_wds ex56v_wds
  have h1 := (h 1 (by omega)).is_ (by omega) (by omega) ex99_wds exD_wds ex56v_wds
  have e0 := h0.eq_of (by rw [show ex99.getD (0 + 0 * 1) 0 = 4621256167635550208 from rfl, ex_f0]; decide)
  have e1 := h1.eq_of (by rw [show ex99.getD (0 + 1 * 1) 0 = 4621256167635550208 from rfl, ex_f1]; decide)
  rw [show ex99.getD (0 + 0 * 1) 0 = 4621256167635550208 from rfl, ex_f0] at e0
  rw [show ex99.getD (0 + 1 * 1) 0 = 4621256167635550208 from rfl, ex_f1] at e1
  match m, hl with
  | [x0, x1], _ => simp at e0 e1; simp [ex1739, e0, e1]
end Go.Proofs.Ytlhdcajamempoaa
