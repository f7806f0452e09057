/-
Gemv: the pure numbers of a product (of GvL, what GemvClose wants). Conditions: as each says.
-/
import Derived.Test.YtodoibioedelgaaZGvE
import Derived.Test.YtodoibioedelgaaZMvH
import Derived.Test.YtodoibioedelgaaZVwC
import Derived.Test.YtodoibioedelgaaGh
import Derived.Test.YtodoibioedelgaaZGvD
import Derived.Test.YtodoibioedelgaaZVwM
set_option linter.unusedVariables false
set_option linter.unusedSimpArgs false
set_option linter.unnecessarySimpa false
namespace Go.Proofs.Ytodoibioedelgaa
open Go.RowKit
attribute [local go_sem ↓] Go.wp_at_zero Go.wp_at_succ

/-- Numbers added one behind the other. -/
def chnF (z : Nat) (f : Nat → Nat) : Nat → Nat
  | 0 => z
  | k + 1 => fbin .add (chnF z f k) (f k)
theorem chnF_congr (z : Nat) {f f' : Nat → Nat} : ∀ k, (∀ j, j < k → f j = f' j) → chnF z f k = chnF z f' k
  | 0, _ => rfl
  | k + 1, h => by
    show fbin .add _ _ = fbin .add _ _
    rw [chnF_congr z k (fun j hj => h j (by omega)), h k (by omega)]
theorem Chn.is_ {S : Nat → Nat → Nat → Prop} {y z : Nat} {f : Nat → Nat} (hy : Is y z) : ∀ {k r : Nat}, (∀ j, j < k → ∀ s r, S j s r → ∃ p, Is p (f j) ∧ Comes .add s p r) → Chn S y k r → Is r (chnF z f k)
  | 0, r, _, h => by
    obtain rfl : r = y := h
    exact hy
  | k + 1, r, hS, h => by
    obtain ⟨s, h1, h2⟩ := h
    obtain ⟨p, h3, h4⟩ := hS k (by omega) s r h2
    exact h4.is_ (Chn.is_ hy (fun j hj => hS j (by omega)) h1) h3
theorem MulR.is_ {a n f r : Nat} (ha : a < 18446744073709551616) (hn : n < 18446744073709551616) (hf : f < 18446744073709551616) (h : MulR a n f r) : Is r (fbin .mul (fbin .mul a f) n) := by
  obtain ⟨p, h1, h2⟩ := h
  exact h2.is_ (h1.is_ (Is.refl ha) (Is.refl hf)) (Is.refl hn)
theorem MulQ.is_ {a b : Nat} {l : List Nat} {o i : Nat} {lm : List Nat} {om C L : Nat} {lx : List Nat} {ox ix q r : Nat} (ha : a < 18446744073709551616) (hb : b < 18446744073709551616) (hW : Wds l) (hWm : Wds lm) (hWx : Wds lx) (h : MulQ a b l o i lm om C L lx ox ix q r) :
    Is r (chnF (begF b (l.getD (o + q * i) 0)) (fun k => fbin .mul (fbin .mul a (lx.getD (ox + k * ix) 0)) (lm.getD (om + k * L + q) 0)) C) := by
  obtain ⟨s, h1, h2⟩ := h
  exact Chn.is_ (h1.is_ hb (Is.refl (getD_wds hW _))) (fun j _ s r hS => by
    obtain ⟨p, k1, k2⟩ := hS
    exact ⟨p, MulR.is_ ha (getD_wds hWm _) (getD_wds hWx _) k1, k2⟩) h2
/-! ### The document's example. -/
def ex99 : List Nat := [4621256167635550208, 4621256167635550208]
def ex56v : List Nat := [4617315517961601024, 4618441417868443648]
def ex1234 : List Nat := [4607182418800017408, 4611686018427387904, 4613937818241073152, 4616189618054758400]
def exD : List Nat := [4607182418800017408, 4613937818241073152, 4611686018427387904, 4616189618054758400]
def ex1739 : List Nat := [4625478292286210048, 4630685579355357184]
theorem ex1739_wds : Wds ex1739 := by intro b hb; simp [ex1739] at hb; omega
theorem exD_wds : Wds exD := by intro b hb; simp [exD] at hb; omega
theorem ex99_wds : Wds ex99 := by intro b hb; simp [ex99] at hb; omega
theorem ex56v_wds : Wds ex56v := by intro b hb; simp [ex56v] at hb; omega
theorem ex_f0 : chnF (begF 0 4621256167635550208) (fun k => fbin .mul (fbin .mul 4607182418800017408 (ex56v.getD (0 + k * 1) 0)) (exD.getD (0 + k * 2 + 0) 0)) 2 = 4625478292286210048 := by decide +kernel
theorem ex_f1 : chnF (begF 0 4621256167635550208) (fun k => fbin .mul (fbin .mul 4607182418800017408 (ex56v.getD (0 + k * 1) 0)) (exD.getD (0 + k * 2 + 1) 0)) 2 = 4630685579355357184 := by decide +kernel
theorem ex_dense {M : List Nat} (h : Dense ex1234 2 2 M) : M = exD := by
  obtain ⟨h1, h2⟩ := h
  have a0 := h2 0 (by omega)
  have a1 := h2 1 (by omega)
  have a2 := h2 2 (by omega)
  have a3 := h2 3 (by omega)
  simp [spot] at a0 a1 a2 a3
  match M, h1 with
  | [x0, x1, x2, x3], _ => simp [ex1234] at a0 a1 a2 a3; simp [exD, a0, a1, a2, a3]
theorem ex_mul {m : List Nat} (hl : m.length = 2) (h : ∀ q, q < 2 → MulQ 4607182418800017408 0 ex99 0 1 exD 0 2 2 ex56v 0 1 q (m.getD q 0)) : m = ex1739 := by
  have h0 := (h 0 (by omega)).is_ (by omega) (by omega) ex99_wds exD_wds ex56v_wds
  have h1 := (h 1 (by omega)).is_ (by omega) (by omega) ex99_wds exD_wds ex56v_wds
  have e0 := h0.eq_of (by rw [show ex99.getD (0 + 0 * 1) 0 = 4621256167635550208 from rfl, ex_f0]; decide)
  have e1 := h1.eq_of (by rw [show ex99.getD (0 + 1 * 1) 0 = 4621256167635550208 from rfl, ex_f1]; decide)
  rw [show ex99.getD (0 + 0 * 1) 0 = 4621256167635550208 from rfl, ex_f0] at e0
  rw [show ex99.getD (0 + 1 * 1) 0 = 4621256167635550208 from rfl, ex_f1] at e1
  match m, hl with
  | [x0, x1], _ => simp at e0 e1; simp [ex1739, e0, e1]

end Go.Proofs.Ytodoibioedelgaa
/-
Gemv: the document's example (of GvM). Conditions: none.
-/
set_option linter.unusedVariables false
set_option linter.unusedSimpArgs false
set_option linter.unnecessarySimpa false
namespace Go.Proofs.Ytodoibioedelgaa
open Go.RowKit
attribute [local go_sem ↓] Go.wp_at_zero Go.wp_at_succ

set_option maxHeartbeats 1000000 in
theorem awake7_any (w : World) : Calls Try.prog 6 #[] w fun e w' => e = .returned (.bool true) ∧ Below w.heap.size w w' := by
  have z0 : I64 0 := by unfold I64; omega
  have z1 : I64 1 := by unfold I64; omega
  have z2 : I64 2 := by unfold I64; omega
  have HAb := Lib.hid (fun W => show Calls Try.prog 14 #[.agg #[.slice none 0 0, .int .i64 0, .int .i64 0, .int .i64 0, .int .i64 0], .agg #[.slice none 0 0, .int .i64 0, .int .i64 0, .int .i64 0], .agg #[.slice none 0 0, .int .i64 0, .int .i64 0, .int .i64 0]] W fun e w' => e = .returned (.int .i64 1) ∧ Below W.heap.size W w' from
    gvabs_err none 0 0 0 0 0 0 none 0 0 0 0 0 none 0 0 0 0 0 1 W (by omega) (fun W' _ => gvfits_bad none 0 0 0 0 0 0 none 0 0 0 0 0 none 0 0 0 0 0 0 0 W' (by omega) z0 z0 z0 z0 (by omega) z0 z0 z0 (by omega) z0 z0 z0 (by decide)))
  have HDn := Lib.hid (fun (g : Nat) W (hO : Row W (some ⟨g, 0, none⟩) (f64s ex1234)) => show Calls Try.prog 25 #[.int .i64 2, .int .i64 2, .slice (some ⟨g, 0, none⟩) 4 4] W fun e w' => ∃ g, e = .returned (.agg #[.slice (some ⟨g, 0, none⟩) 4 4, .int .i64 0, .int .i64 2, .int .i64 2, .int .i64 2]) ∧ Own w' g exD ∧ W.heap.size ≤ g ∧ Below W.heap.size W w' from by
    refine (dense_blk (some ⟨g, 0, none⟩) 4 ex1234 2 2 W (by omega) (by omega) hO (by decide) (by decide)).mono ?_
    rintro e w' ⟨g', M, rfl, hd, hB, hg, hb⟩
    obtain rfl := ex_dense hd
    exact ⟨g', rfl, own_blk hB, hg, hb⟩)
  have HMu := Lib.hid (fun (g gm gx : Nat) W (hO : Own W g ex99) (hM : Own W gm exD) (hX : Own W gx ex56v) (h1 : g ≠ gm) (h2 : g ≠ gx) => show Calls Try.prog 12 #[.float .f64 4607182418800017408, .agg #[.slice (some ⟨gm, 0, none⟩) 4 4, .int .i64 0, .int .i64 2, .int .i64 2, .int .i64 2], .agg #[.slice (some ⟨gx, 0, none⟩) 2 2, .int .i64 0, .int .i64 2, .int .i64 1], .float .f64 0, .agg #[.slice (some ⟨g, 0, none⟩) 2 2, .int .i64 0, .int .i64 2, .int .i64 1]] W fun e w' => e = .returned (.int .i64 0) ∧ Own w' g ex1739 ∧ Chg [g] W w' from by
    refine (gvmul_ok 4607182418800017408 0 g 2 2 ex99 0 2 1 gm 4 4 exD 0 2 2 gx 2 2 ex56v 0 1 W hO rfl (by omega) (by omega) (by omega) hM rfl (by omega) (by omega) (by omega) (by omega) exD_wds hX rfl (by omega) (by omega) (by omega) ex56v_wds z0 z2 z0 z1 (by omega) (by omega) (fun e => (h1 e.symm).elim) (fun e => (h2 e.symm).elim) (fun W' hb => ?_)).mono ?_
    · refine gvfits_ok (some ⟨gm, 0, none⟩) 4 4 0 2 2 2 (some ⟨gx, 0, none⟩) 2 2 0 2 1 (some ⟨g, 0, none⟩) 2 2 0 2 1 W' (by omega) z0 z2 z2 z2 (by omega) z0 z2 z1 (by omega) z0 z2 z1 (by decide) (fun W2 hb2 => ?_) (fun W2 hb2 => ?_)
      · have := meet_own g gm 2 4 ex99 exD 0 1 2 1 0 2 2 2 W2 (hO.nxt (below_nx hb hb2)) (hM.nxt (below_nx hb hb2)) (by decide) z0 z1 z2 z1 (by decide) z0 z2 z2 z2
        rw [show decide (g = gm) = false from decide_eq_false h1, Bool.and_false, Bool.false_and] at this
        exact this
      · have := meet_own g gx 2 2 ex99 ex56v 0 1 2 1 0 1 2 1 W2 (hO.nxt (below_nx hb hb2)) (hX.nxt (below_nx hb hb2)) (by decide) z0 z1 z2 z1 (by decide) z0 z1 z2 z1
        rw [show decide (g = gx) = false from decide_eq_false h2, Bool.and_false, Bool.false_and] at this
        exact this
    · rintro e w' ⟨rfl, m, k1, k2, k3, k4⟩
      rw [ex_mul k1 k2] at k3
      exact ⟨rfl, k3, k4⟩)
  have HAl := Lib.hid (fun (A B : Option Addr) (W : World) (h : Row W A (f64s ex1739)) (h' : Row W B (f64s ex1739)) => show Calls Try.prog 16 #[.slice A 2 2, .slice B 2 2] W fun e w' => e = .returned (.bool true) ∧ Below W.heap.size W w' from
    rall_any A B 2 2 ex1739 ex1739 W ex1739_wds ex1739_wds h h' (by decide) (Alike.refl _))
  have HB0 := Lib.hid ((Below.refl w.heap.size w))
  clear z0 z1 z2
  go_enter Try.func6, Try.ntmps6
  go_wp2_with fail
  refine (HAb.out _).mono ?_
  rintro e w1 ⟨rfl, hb⟩
  have HB1 := Lib.hid hb
  clear hb
  go_wp2_with fail
  have HO := Lib.hid (own_blk ((Blk.new w1 22 (f64s ex99).toArray).alloc (.cells (f64s ex1234).toArray 22)))
  have HR := Lib.hid (own_blk (Blk.new_ (w1.alloc (.cells (f64s ex99).toArray 22)) 22 (f64s ex1234).toArray (w1.heap.size + 1) (by simp))).row
  have HB2 := Lib.hid (below_al (below_al HB1.out (o := (.cells (f64s ex99).toArray 22))) (o := (.cells (f64s ex1234).toArray 22)))
  refine (HDn.out _ _ HR.out).mono ?_
  rintro e w2 ⟨gm, rfl, hM, hg, hb⟩
  have HO2 := Lib.hid (HO.out.nxt hb)
  have HM2 := Lib.hid hM
  have HB3 := Lib.hid (below_nx HB2.out hb)
  have hgm : w1.heap.size < gm := by
    have h1 : w1.heap.size + 1 + 1 ≤ gm := by simpa using hg
    omega
  have hgw : gm < w2.heap.size := hM.lt
  clear hb hg hM
  go_wp2_with fail
  have HO3 := Lib.hid (HO2.out.nxt (below_one (o := (.cells (f64s ex56v).toArray 22))))
  have HM3 := Lib.hid (HM2.out.nxt (below_one (o := (.cells (f64s ex56v).toArray 22))))
  have HX3 := Lib.hid (own_blk (Blk.new w2 22 (f64s ex56v).toArray))
  have HB4 := Lib.hid (below_al HB3.out (o := (.cells (f64s ex56v).toArray 22)))
  refine (HMu.out _ _ _ _ HO3.out HM3.out HX3.out (by omega) (by omega)).mono ?_
  rintro e w3 ⟨rfl, ho, hc⟩
  have HO4 := Lib.hid ho
  have HB5 := Lib.hid (hc.below HB4.out HB4.out.size (by intro g hg; simp at hg; subst hg; exact HB1.out.size))
  clear ho hc
  go_wp2_with fail
  have HR1 := Lib.hid (HO4.out.nxt (below_one (o := (.cells (f64s ex1739).toArray 22)))).row
  have HR2 := Lib.hid (own_blk (Blk.new w3 22 (f64s ex1739).toArray)).row
  have HB6 := Lib.hid (below_al HB5.out (o := (.cells (f64s ex1739).toArray 22)))
  refine (HAl.out _ _ _ HR1.out HR2.out).mono ?_
  rintro e w4 ⟨rfl, hb⟩
  have HB7 := Lib.hid (below_nx HB6.out hb)
  clear hb
  go_wp2_with fail
  go_ret
  exact ⟨rfl, HB7.out⟩

end Go.Proofs.Ytodoibioedelgaa
/-
The document's spans, and which error. Conditions: as each says.
-/
set_option linter.unusedVariables false
set_option linter.unusedSimpArgs false
set_option linter.unnecessarySimpa false
namespace Go.Proofs.Ytodoibioedelgaa
open Go.RowKit
attribute [local go_sem ↓] Go.wp_at_zero Go.wp_at_succ

/-- Two stretches have a place in common. -/
def spB (a b c d : Int) : Bool := decide (a ≤ b) && decide (c ≤ d) && decide (a ≤ d) && decide (c ≤ b)
theorem spans_any (a b c d : Int) (w : World) : Calls Try.prog 50 #[.int .i64 a, .int .i64 b, .int .i64 c, .int .i64 d] w fun e w' => e = .returned (.bool (spB a b c d)) ∧ w = w' := by
  unfold spB
  obtain ⟨x1, h1⟩ : ∃ x, decide (a ≤ b) = x := ⟨_, rfl⟩
  obtain ⟨x2, h2⟩ : ∃ x, decide (c ≤ d) = x := ⟨_, rfl⟩
  obtain ⟨x3, h3⟩ : ∃ x, decide (a ≤ d) = x := ⟨_, rfl⟩
  obtain ⟨x4, h4⟩ : ∃ x, decide (c ≤ b) = x := ⟨_, rfl⟩
  rw [h1, h2, h3, h4]
  cases x1
  · go_enter Try.func50, Try.ntmps50
    go_wp2_with fail
    go_ret
    exact ⟨rfl, rfl⟩
  cases x2
  · go_enter Try.func50, Try.ntmps50
    go_wp2_with fail
    go_ret
    exact ⟨rfl, rfl⟩
  cases x3
  · go_enter Try.func50, Try.ntmps50
    go_wp2_with fail
    go_ret
    exact ⟨rfl, rfl⟩
  cases x4 <;>
  · go_enter Try.func50, Try.ntmps50
    go_wp2_with fail
    go_ret
    exact ⟨rfl, rfl⟩
/-- From, to, of a vector, of a matrix. -/
def vsA (o K : Nat) : Int := if K = 0 then 0 else (o : Int)
def vsB (o K i : Nat) : Int := if K = 0 then -1 else ((o + (K - 1) * i : Nat) : Int)
def msA (o R C : Nat) : Int := if R = 0 ∨ C = 0 then 0 else (o : Int)
def msB (o R C L : Nat) : Int := if R = 0 ∨ C = 0 then -1 else ((o + (C - 1) * L + (R - 1) : Nat) : Int)
theorem wr2 {q : Nat} (h : q < 1048578) : wrap64 (q : Int) = (q : Int) ∧ IntKind.i64.wrap (q : Int) = (q : Int) := ⟨by unfold wrap64; omega, wrapi (by omega) (by omega)⟩
theorem beq0 (R : Nat) : (R == 0) = ((R : Int) == 0) := by
  cases R with
  | zero => rfl
  | succ n =>
    have : ((n + 1 : Nat) : Int) ≠ 0 := by omega
    rw [beq_eq_false_iff_ne.2 (Nat.succ_ne_zero n), beq_eq_false_iff_ne.2 this]
theorem vspan_facts {o K i n : Nat} (hn : n < 1048576) (hKb : K < 1048576) (e : K ≠ 0) (hr : o + (K - 1) * i < n) : ∃ k p P : Nat, o + (K - 1) * i = P ∧ (K : Int) - 1 = (k : Int) ∧ ((k : Int) * (i : Int)) = (p : Int) ∧ (o : Int) + (p : Int) = (P : Int) ∧
    (wrap64 (k : Int) = (k : Int) ∧ IntKind.i64.wrap (k : Int) = (k : Int)) ∧ (wrap64 (p : Int) = (p : Int) ∧ IntKind.i64.wrap (p : Int) = (p : Int)) ∧ (wrap64 (P : Int) = (P : Int) ∧ IntKind.i64.wrap (P : Int) = (P : Int)) := by
  have h1 : (((K - 1 : Nat) : Int) * (i : Int)) = (((K - 1) * i : Nat) : Int) := (Int.natCast_mul _ _).symm
  refine ⟨K - 1, (K - 1) * i, o + (K - 1) * i, rfl, by omega, h1, ?_, wr2 (by omega), ?_, ?_⟩
  · generalize (K - 1) * i = p; omega
  · generalize (K - 1) * i = p at *; exact wr2 (by omega)
  · generalize (K - 1) * i = p at *; exact wr2 (by omega)
theorem mspan_facts {o R C L n : Nat} (hn : n < 1048576) (hRb : R < 1048576) (hCb : C < 1048576) (eR : R ≠ 0) (eC : C ≠ 0) (hr : o + (C - 1) * L + (R - 1) < n) : ∃ k p P S S' : Nat, o + (C - 1) * L + (R - 1) = S' ∧ (C : Int) - 1 = (k : Int) ∧ ((k : Int) * (L : Int)) = (p : Int) ∧ (o : Int) + (p : Int) = (P : Int) ∧ (P : Int) + (R : Int) = (S : Int) ∧ (S : Int) - 1 = (S' : Int) ∧
    (wrap64 (k : Int) = (k : Int) ∧ IntKind.i64.wrap (k : Int) = (k : Int)) ∧ (wrap64 (p : Int) = (p : Int) ∧ IntKind.i64.wrap (p : Int) = (p : Int)) ∧ (wrap64 (P : Int) = (P : Int) ∧ IntKind.i64.wrap (P : Int) = (P : Int)) ∧ (wrap64 (S : Int) = (S : Int) ∧ IntKind.i64.wrap (S : Int) = (S : Int)) ∧ (wrap64 (S' : Int) = (S' : Int) ∧ IntKind.i64.wrap (S' : Int) = (S' : Int)) := by
  have h1 : (((C - 1 : Nat) : Int) * (L : Int)) = (((C - 1) * L : Nat) : Int) := (Int.natCast_mul _ _).symm
  refine ⟨C - 1, (C - 1) * L, o + (C - 1) * L, o + (C - 1) * L + R, o + (C - 1) * L + (R - 1), rfl, by omega, h1, ?_⟩
  clear h1
  generalize (C - 1) * L = p at *
  exact ⟨by omega, by omega, by omega, wr2 (by omega), wr2 (by omega), wr2 (by omega), wr2 (by omega), wr2 (by omega)⟩
set_option maxHeartbeats 1000000 in
theorem vspan_any (A : Option Addr) (n c o K i : Nat) (w : World) (hn : n < 1048576) (hKb : K < 1048576) (hr : K = 0 ∨ o + (K - 1) * i < n) :
    Calls Try.prog 48 #[vec A n c o K i] w fun e w' => e = .returned (.tuple #[.int .i64 (vsA o K), .int .i64 (vsB o K i)]) ∧ Below w.heap.size w w' := by
  have HB := Lib.hid ((Below.refl w.heap.size w).alloc (Nat.le_refl _) (.cells #[.slice A n c, .int .i64 o, .int .i64 K, .int .i64 i] 27))
  unfold vsA vsB
  by_cases e : K = 0
  · subst e
    rw [if_pos rfl, if_pos rfl]
    unfold vec
    have t1 : (((0 : Nat) : Int) == 0) = true := rfl
    go_enter Try.func48, Try.ntmps48
    go_wp2_with fail
    go_ret2
    exact ⟨rfl, HB.out⟩
  · rw [if_neg e, if_neg e]
    obtain ⟨k, p, P, hP, e1, e2, e3, ⟨a1, a2⟩, ⟨b1, b2⟩, ⟨c1, c2⟩⟩ := vspan_facts (i := i) hn hKb e (hr.resolve_left e)
    rw [hP]
    have t1 : ((K : Int) == 0) = false := by simp [e]
    have t2 : (K == 0) = false := by simp [e]
    clear e hr hP hKb hn
    unfold vec
    go_enter Try.func48, Try.ntmps48
    go_wp2_with fail
    go_quiet (fail)
    go_wp2_with fail
    go_ret2
    exact ⟨rfl, below_drewN HB.out _⟩
set_option maxHeartbeats 1000000 in
theorem mspan_any (A : Option Addr) (n c o R C L : Nat) (w : World) (hn : n < 1048576) (hRb : R < 1048576) (hCb : C < 1048576) (hr : R = 0 ∨ C = 0 ∨ o + (C - 1) * L + (R - 1) < n) :
    Calls Try.prog 49 #[mat A n c o R C L] w fun e w' => e = .returned (.tuple #[.int .i64 (msA o R C), .int .i64 (msB o R C L)]) ∧ Below w.heap.size w w' := by
  have HB := Lib.hid ((Below.refl w.heap.size w).alloc (Nat.le_refl _) (.cells #[.slice A n c, .int .i64 o, .int .i64 R, .int .i64 C, .int .i64 L] 25))
  unfold msA msB
  by_cases e : R = 0 ∨ C = 0
  · rw [if_pos e, if_pos e]
    obtain ⟨x, hx⟩ : ∃ x, ((R : Int) == 0) = x := ⟨_, rfl⟩
    obtain ⟨y, hy⟩ : ∃ y, ((C : Int) == 0) = y := ⟨_, rfl⟩
    have hxn : (R == 0) = x := by rw [← hx]; exact beq0 R
    have hyn : (C == 0) = y := by rw [← hy]; exact beq0 C
    have hxy : x = true ∨ y = true := by
      rcases e with h | h
      · left; rw [← hx]; simp [h]
      · right; rw [← hy]; simp [h]
    clear e hr
    cases x
    · have hy1 : y = true := by simpa using hxy
      subst hy1
      clear hxy
      unfold mat
      go_enter Try.func49, Try.ntmps49
      go_wp2_with fail
      go_ret2
      exact ⟨rfl, HB.out⟩
    · clear hxy hy hyn y
      unfold mat
      go_enter Try.func49, Try.ntmps49
      go_wp2_with fail
      go_ret2
      exact ⟨rfl, HB.out⟩
  · rw [if_neg e, if_neg e]
    have eR : R ≠ 0 := fun h => e (.inl h)
    have eC : C ≠ 0 := fun h => e (.inr h)
    have hr2 : o + (C - 1) * L + (R - 1) < n := (hr.resolve_left eR).resolve_left eC
    obtain ⟨k, p, P, S, S', hS', e1, e2, e3, e4, e5, ⟨a1, a2⟩, ⟨b1, b2⟩, ⟨c1, c2⟩, ⟨d1, d2⟩, ⟨f1, f2⟩⟩ := mspan_facts (L := L) hn hRb hCb eR eC hr2
    rw [hS']
    have t1 : ((R : Int) == 0) = false := by simp [eR]
    have t2 : (R == 0) = false := by simp [eR]
    have t3 : ((C : Int) == 0) = false := by simp [eC]
    have t4 : (C == 0) = false := by simp [eC]
    clear e hr hr2 hS' eR eC hn hRb hCb
    unfold mat
    go_enter Try.func49, Try.ntmps49
    go_wp2_with fail
    go_quiet (fail)
    go_wp2_with fail
    go_ret2
    exact ⟨rfl, below_drewN HB.out _⟩
end Go.Proofs.Ytodoibioedelgaa
