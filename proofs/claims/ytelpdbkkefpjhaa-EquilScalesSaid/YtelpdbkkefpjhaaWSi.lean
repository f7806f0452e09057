/-
Rows: two rows change places. Conditions: the matrix' list is the call's own, or the caller's.
-/
import Derived.Test.YtelpdbkkefpjhaaZSMvF
import Derived.Test.YtelpdbkkefpjhaaSInv
import Derived.Test.YtelpdbkkefpjhaaWSe
import Derived.Maps.AppendAt
import Derived.Test.YtelpdbkkefpjhaaWSf
set_option linter.unusedVariables false
set_option linter.unusedSimpArgs false
set_option linter.unnecessarySimpa false
namespace Go.Proofs.Ytelpdbkkefpjhaa
open Go.RowKit
attribute [local go_sem ↓] Go.wp_at_zero Go.wp_at_succ

/-- What a region has made so far: its variables p and q hold these, or their first values. -/
def Two (w0 : World) (t : TypeId) (z a b : Array Value) (da db sa sb : Bool) (va vb : Value) (W : World) : Prop :=
  Below w0.heap.size w0 W ∧ (da = true → ∃ p, va = .pointer (some ⟨p, 0, none⟩) ∧ w0.heap.size ≤ p ∧ Blk W p t (if sa then a else z)) ∧
    (db = true → ∃ p, vb = .pointer (some ⟨p, 0, none⟩) ∧ w0.heap.size ≤ p ∧ Blk W p t (if sb then b else z)) ∧ (da = true → db = true → va ≠ vb)
section
variable {w0 W W' : World} {t : TypeId} {z a b : Array Value} {da db sa sb : Bool} {va vb : Value}
theorem Two.nxt (h : Two w0 t z a b da db sa sb va vb W) (hb : Below W.heap.size W W') : Two w0 t z a b da db sa sb va vb W' :=
  ⟨below_nx h.1 hb, fun e => by
    obtain ⟨p, h1, h2, h3⟩ := h.2.1 e
    exact ⟨p, h1, h2, h3.nxt hb⟩, fun e => by
    obtain ⟨p, h1, h2, h3⟩ := h.2.2.1 e
    exact ⟨p, h1, h2, h3.nxt hb⟩, h.2.2.2⟩
end
theorem heap_sets3 {w : World} {g k : Nat} (h : k ≠ g) (x0 x1 x2 : Value) : (((w.setCell ⟨g, 0, none⟩ x0).setCell ⟨g, 1, none⟩ x1).setCell ⟨g, 2, none⟩ x2).heap[k]? = w.heap[k]? := by
  rw [Below.heap_setCell _ _ _ _ h, Below.heap_setCell _ _ _ _ h, Below.heap_setCell _ _ _ _ h]
end Go.Proofs.Ytelpdbkkefpjhaa
/-
Rows of a matrix change places, in the list. Conditions: as each says.
-/
set_option linter.unusedVariables false
namespace Go.Proofs.Ytelpdbkkefpjhaa
open Go.RowKit
attribute [local go_sem ↓] Go.wp_at_zero Go.wp_at_succ

/-- A right matrix, in plain numbers. -/
theorem mat_nat {n : Nat} {off r k ld : Int} (h : matB n off r k ld = true) : ∃ o R C L : Nat, off = o ∧ r = R ∧ k = C ∧ ld = L ∧ 1 ≤ L ∧ R ≤ L ∧ (R = 0 ∨ C = 0 ∨ o + (C - 1) * L + (R - 1) < n) := by
  have h := of_decide_eq_true h
  refine ⟨off.toNat, r.toNat, k.toNat, ld.toNat, by omega, by omega, by omega, by omega, by omega, by omega, ?_⟩
  by_cases hr : r = 0
  · exact .inl (by omega)
  · by_cases hk : k = 0
    · exact .inr (.inl (by omega))
    · refine .inr (.inr ?_)
      have e : ((off.toNat + (k.toNat - 1) * ld.toNat + (r.toNat - 1) : Nat) : Int) = off + (k - 1) * ld + (r - 1) := by
        rw [Int.natCast_add, Int.natCast_add, Int.natCast_mul, Int.toNat_of_nonneg (by omega), Int.toNat_of_nonneg (by omega : 0 ≤ ld)]
        have e1 : ((k.toNat - 1 : Nat) : Int) = k - 1 := by omega
        have e2 : ((r.toNat - 1 : Nat) : Int) = r - 1 := by omega
        rw [e1, e2]
      omega
theorem mat_right {n o R C L : Nat} (hL : 1 ≤ L) (hR : R ≤ L) (h : R = 0 ∨ C = 0 ∨ o + (C - 1) * L + (R - 1) < n) : matB n (o : Int) (R : Int) (C : Int) (L : Int) = true := by
  refine decide_eq_true ⟨by omega, by omega, by omega, by omega, by omega, ?_⟩
  rcases Nat.eq_zero_or_pos R with h0 | h0
  · exact .inl (by omega)
  rcases Nat.eq_zero_or_pos C with h1 | h1
  · exact .inr (.inl (by omega))
  have h2 : o + (C - 1) * L + (R - 1) < n := by omega
  refine .inr (.inr ?_)
  have e : ((C : Int) - 1) * (L : Int) = (((C - 1) * L : Nat) : Int) := by rw [Int.natCast_mul]; congr 1; omega
  rw [e]; omega

/-- The list has the table T at the matrix' places, and is else as it was. -/
def Img (l : List Nat) (o R C L : Nat) (T : Nat → Nat → Nat) (l' : List Nat) : Prop :=
  l'.length = l.length ∧ (∀ a, a < R → ∀ b, b < C → l'.getD (o + a + b * L) 0 = T a b) ∧ ∀ x, (∀ a, a < R → ∀ b, b < C → x ≠ o + a + b * L) → l'.getD x 0 = l.getD x 0
theorem Img.uniq {l : List Nat} {o R C L : Nat} {T T' : Nat → Nat → Nat} {m m' : List Nat} (h : Img l o R C L T m) (h' : Img l o R C L T' m') (e : ∀ a, a < R → ∀ b, b < C → T a b = T' a b) : m = m' := by
  refine ext_getD (h.1.trans h'.1.symm) fun x _ => ?_
  by_cases hx : ∃ a, a < R ∧ ∃ b, b < C ∧ x = o + a + b * L
  · obtain ⟨a, ha, b, hb, rfl⟩ := hx
    rw [h.2.1 a ha b hb, h'.2.1 a ha b hb, e a ha b hb]
  · have hx' : ∀ a, a < R → ∀ b, b < C → x ≠ o + a + b * L := fun a ha b hb e => hx ⟨a, ha, b, hb, e⟩
    rw [h.2.2 x hx', h'.2.2 x hx']
theorem Img.refl (l : List Nat) (o R C L : Nat) : Img l o R C L (fun a b => l.getD (o + a + b * L) 0) l := ⟨rfl, fun _ _ _ _ => rfl, fun _ _ => rfl⟩
theorem Img.trans {l m m' : List Nat} {o R C L : Nat} {T T' : Nat → Nat → Nat} (h : Img l o R C L T m) (h' : Img m o R C L T' m') : Img l o R C L T' m' :=
  ⟨h'.1.trans h.1, h'.2.1, fun x hx => (h'.2.2 x hx).trans (h.2.2 x hx)⟩
theorem Img.congr {l m : List Nat} {o R C L : Nat} {T T' : Nat → Nat → Nat} (h : Img l o R C L T m) (e : ∀ a, a < R → ∀ b, b < C → T a b = T' a b) : Img l o R C L T' m :=
  ⟨h.1, fun a ha b hb => (h.2.1 a ha b hb).trans (e a ha b hb), h.2.2⟩
theorem spots_inj {L a b a' b' : Nat} (ha : a < L) (ha' : a' < L) (h : a + b * L = a' + b' * L) : a = a' ∧ b = b' := by
  have h1 : (a + b * L) % L = a := by rw [Nat.add_mul_mod_self_right, Nat.mod_eq_of_lt ha]
  have h2 : (a' + b' * L) % L = a' := by rw [Nat.add_mul_mod_self_right, Nat.mod_eq_of_lt ha']
  have e : a = a' := by rw [← h1, h, h2]
  subst e
  have hL : 0 < L := Nat.lt_of_le_of_lt (Nat.zero_le _) ha
  have hm : b * L = b' * L := by omega
  exact ⟨rfl, Nat.eq_of_mul_eq_mul_right hL hm⟩
/-- The row that stands at a when rows i and j have changed places. -/
def sw (i j a : Nat) : Nat := if a = i then j else if a = j then i else a
theorem sw_lt {i j a R : Nat} (hi : i < R) (hj : j < R) (ha : a < R) : sw i j a < R := by unfold sw; split <;> (try split) <;> omega
end Go.Proofs.Ytelpdbkkefpjhaa
/-
The example; Great; Take. Conditions: as each says.
-/
set_option linter.unusedVariables false
namespace Go.Proofs.Ytelpdbkkefpjhaa
open Go.RowKit
attribute [local go_sem ↓] Go.wp_at_zero Go.wp_at_succ

/-- Is there more of a matrix than is looked at? -/
def greatB (n : Nat) (r k : Int) : Bool := decide (1000 < n) || decide (20 < r) || decide (20 < k)
theorem great_any (A : Option Addr) (n c : Nat) (off r k ld : Int) (w : World) : Calls Try.prog 7 #[mat A n c off r k ld] w fun e w' => e = .returned (.bool (greatB n r k)) ∧ Below w.heap.size w w' := by
  have hbel := fun (o : Obj) => (Below.refl w.heap.size w).alloc (Nat.le_refl _) o
  have e0 : decide ((1000 : Int) < (n : Int)) = decide (1000 < n) := decide_eq_decide.2 (by omega)
  unfold mat greatB
  by_cases h1 : (1000 : Int) < (n : Int)
  · have h2 : decide (1000 < n) = true := by simp; omega
    rw [h2]
    go_enter Try.func7, Try.ntmps7
    go_wp2_with fail
    go_ret
    exact ⟨by simp, hbel _⟩
  · have h2 : decide (1000 < n) = false := by simp; omega
    rw [h2]
    by_cases h3 : 20 < r
    · go_enter Try.func7, Try.ntmps7
      go_wp2_with fail
      go_ret
      exact ⟨by simp <;> omega, hbel _⟩
    · go_enter Try.func7, Try.ntmps7
      go_wp2_with fail
      go_ret
      exact ⟨by simp <;> omega, hbel _⟩
end Go.Proofs.Ytelpdbkkefpjhaa
/-
Take: rows that change places in an order. Conditions: as each says.
-/
set_option linter.unusedVariables false
namespace Go.Proofs.Ytelpdbkkefpjhaa
open Go.RowKit
attribute [local go_sem ↓] Go.wp_at_zero Go.wp_at_succ

/-- The row that stands at a when the first k changes of the order have been made. -/
def prm (zs : List Int) : Nat → Nat → Nat
  | 0, a => a
  | k + 1, a => prm zs k (sw k (zs.getD k 0).toNat a)
theorem Img.step {l m m' : List Nat} {o R C L i j : Nat} {zs : List Int} {q : Nat} (h : Img l o R C L (fun a b => l.getD (o + prm zs q a + b * L) 0) m) (h' : Img m o R C L (fun a b => m.getD (o + sw i j a + b * L) 0) m') (hi : i < R) (hj : j < R) :
    Img l o R C L (fun a b => l.getD (o + prm zs q (sw i j a) + b * L) 0) m' :=
  (h.trans h').congr fun a ha b hb => h.2.1 _ (sw_lt hi hj ha) b hb

end Go.Proofs.Ytelpdbkkefpjhaa
/-
List, Write: the document's numbers of a vector. Conditions: the vector is right, its list has at most 2^20 numbers.
-/
set_option linter.unusedVariables false
namespace Go.Proofs.Ytelpdbkkefpjhaa
open Go.RowKit
attribute [local go_sem ↓] Go.wp_at_zero Go.wp_at_succ

theorem wrap3 {o a P : Nat} (hP : P < 1048576) (h : o + a = P) : wrap64 (a : Int) = (a : Int) ∧ wrap64 (P : Int) = (P : Int) ∧ IntKind.i64.wrap (a : Int) = (a : Int) ∧ IntKind.i64.wrap (P : Int) = (P : Int) :=
  ⟨wrap_id (by unfold I64; omega), wrap_id (by unfold I64; omega), wrapi (by omega) (by omega), wrapi (by omega) (by omega)⟩
end Go.Proofs.Ytelpdbkkefpjhaa
/-
Two lists that are made longer side by side. Conditions: none.
-/
set_option linter.unusedVariables false
namespace Go.Proofs.Ytelpdbkkefpjhaa
open Go.RowKit

/-- The two values lie in blocks of their own. -/
def Apart (v u : Value) : Prop := v.ownBlock = none ∨ u.ownBlock = none ∨ v.ownBlock ≠ u.ownBlock
theorem Apart.symm {v u : Value} (h : Apart v u) : Apart u v := by
  rcases h with h | h | h
  · exact .inr (.inl h)
  · exact .inl h
  · exact .inr (.inr (fun e => h e.symm))
theorem ii0 : ∃ i, Try.prog.info? 3 = some i ∧ i.zero = some (.int .i64 0) ∧ i.size = 1 ∧ i.bytes = 8 := by
  have h : (Try.prog.info? 3).map (fun i => (i.zero, i.size, i.bytes)) = some (some (.int .i64 0), 1, 8) := by kernel_rfl
  cases hi : Try.prog.info? 3 with
  | none => rw [hi] at h; cases h
  | some i =>
    rw [hi] at h
    simp at h
    exact ⟨i, rfl, h.1, h.2.1, h.2.2⟩
theorem i64s_snoc (l : List Int) (x : Int) : i64s (l ++ [x]) = i64s l ++ [.int .i64 x] := by simp [i64s]
theorem own_rowi {w : World} {B : Nat} {v : Value} {n : Nat} {l : List Int} (h : w.ownsRow B 3 1 v n (i64s l)) (hn : n = l.length) : ∃ A c, v = .slice A n c ∧ Row w A (i64s l) ∧ ∀ b y, A = some ⟨b, y, none⟩ → b < w.heap.size := by
  rcases h.2 with ⟨rfl, h0⟩ | ⟨g, cap, cur, rfl, hB, hg, hc, hm, hs, hx⟩
  · subst h0
    have : l = [] := List.length_eq_zero_iff.1 hn.symm
    subst this
    exact ⟨none, 0, rfl, .inl rfl, fun b y e => by cases e⟩
  · refine ⟨_, cap, rfl, .inr ⟨g, 0, rfl, fun i v hi => ?_⟩, fun b y e => ?_⟩
    · have := World.ownsRow.cells h (g := g) rfl i v hi
      by_cases h0 : i = 0
      · subst h0; simpa [Addr.add] using this
      · simpa [Addr.add, h0] using this
    · injection e with e
      injection e with e1 e2
      subst e1
      exact (Array.getElem?_eq_some_iff.1 hg).1
/-- A list that is counted out. -/
def cnt (f : Nat → Int) (q : Nat) : List Int := (List.range q).map f
theorem cnt_length (f : Nat → Int) (q : Nat) : (cnt f q).length = q := by simp [cnt]
theorem cnt_succ (f : Nat → Int) (q : Nat) : cnt f (q + 1) = cnt f q ++ [f q] := by simp [cnt, List.range_succ]
end Go.Proofs.Ytelpdbkkefpjhaa
/-
The greatest of sizes of what isn't zero, line by line: pure. Conditions: as each says.
-/
set_option linter.unusedVariables false
namespace Go.Proofs.Ytelpdbkkefpjhaa
open Go.RowKit

/-- The greatest of the sizes s at the places before k where z is false, and whether there is one. -/
def gst (z : Nat → Bool) (s : Nat → Int) : Nat → Int × Bool
  | 0 => (0, false)
  | k + 1 => if z k = true then gst z s k else if (gst z s k).2 = true ∧ ¬ (gst z s k).1 < s k then gst z s k else (s k, true)
theorem gst_skip {z : Nat → Bool} {s : Nat → Int} {k : Nat} (h : z k = true) : gst z s (k + 1) = gst z s k := by rw [gst, if_pos h]
theorem gst_first {z : Nat → Bool} {s : Nat → Int} {k : Nat} {M : Int} (h : z k = false) (hg : gst z s k = (M, false)) : gst z s (k + 1) = (s k, true) := by
  rw [gst, if_neg (by rw [h]; decide), hg]; simp
theorem gst_take {z : Nat → Bool} {s : Nat → Int} {k : Nat} {M : Int} (h : z k = false) (hg : gst z s k = (M, true)) (hl : M < s k) : gst z s (k + 1) = (s k, true) := by
  rw [gst, if_neg (by rw [h]; decide), hg, if_neg (fun e => e.2 hl)]
theorem gst_keep {z : Nat → Bool} {s : Nat → Int} {k : Nat} {M : Int} (h : z k = false) (hg : gst z s k = (M, true)) (hl : ¬ M < s k) : gst z s (k + 1) = (M, true) := by
  rw [gst, if_neg (by rw [h]; decide), hg, if_pos ⟨rfl, hl⟩]
theorem gst_congr {z z' : Nat → Bool} {s s' : Nat → Int} : ∀ {n : Nat}, (∀ k, k < n → z k = z' k ∧ (z k = false → s k = s' k)) → gst z s n = gst z' s' n
  | 0, _ => rfl
  | n + 1, h => by
    have ih := gst_congr (n := n) (fun k hk => h k (by omega))
    obtain ⟨h1, h2⟩ := h n (by omega)
    rw [gst, gst, ih, ← h1]
    by_cases hz : z n = true
    · rw [if_pos hz, if_pos hz]
    · rw [if_neg hz, if_neg hz, h2 (by simpa using hz)]
theorem gst_bound {z : Nat → Bool} {s : Nat → Int} {B : Int} (hB : 0 ≤ B) : ∀ {n : Nat}, (∀ k, k < n → -B ≤ s k ∧ s k ≤ B) → -B ≤ (gst z s n).1 ∧ (gst z s n).1 ≤ B
  | 0, _ => by show -B ≤ 0 ∧ (0 : Int) ≤ B; omega
  | n + 1, h => by
    have ih := gst_bound (z := z) hB (n := n) (fun k hk => h k (by omega))
    have := h n (by omega)
    rw [gst]
    split
    · exact ih
    · split
      · exact ih
      · exact this
/-- The number, from 1 on, of the first line that has nothing, or 0. -/
def fb (g : Nat → Int × Bool) : Nat → Nat
  | 0 => 0
  | k + 1 => if fb g k = 0 then (if (g k).2 = true then 0 else k + 1) else fb g k
theorem fb_next {g : Nat → Int × Bool} {k : Nat} (h : fb g k = 0) (h2 : (g k).2 = true) : fb g (k + 1) = 0 := by rw [fb, if_pos h, if_pos h2]
theorem fb_stop {g : Nat → Int × Bool} {k : Nat} (h : fb g k = 0) (h2 : (g k).2 = false) : ∀ {n : Nat}, k < n → fb g n = k + 1
  | 0, hk => by omega
  | n + 1, hk => by
    rw [fb]
    by_cases e : k = n
    · subst e; rw [if_pos h, if_neg (by rw [h2]; decide)]
    · rw [fb_stop h h2 (n := n) (by omega), if_neg (by omega)]
theorem fb_le (g : Nat → Int × Bool) : ∀ n, fb g n ≤ n
  | 0 => Nat.le_refl _
  | n + 1 => by
    have := fb_le g n
    rw [fb]
    split
    · split <;> omega
    · omega
/-- Minus the greatest. -/
def ngs (g : Nat → Int × Bool) (k : Nat) : Int := -(g k).1
theorem eq_res4 {fn : Func} {t u v x : Tmp} (h : fn.results = #[.tmp t, .tmp u, .tmp v, .tmp x]) (tmps : Array Value) (P : Program) (w : World) :
    (results fn tmps).run P w = .ok (.tuple #[tmps.getD t undef, tmps.getD u undef, tmps.getD v undef, tmps.getD x undef]) w := by
  simp [results, h]
/-- Is the number zero? -/
def zB (b : Nat) : Bool := decide (Fl.rung b = 0)
theorem expOf_bounds (b : Nat) : -1074 ≤ expOf b ∧ expOf b ≤ 1023 := by
  unfold expOf
  split
  · omega
  · rename_i h
    have h1 : Fl.rung b ≠ 0 := fun e => h (.inl e)
    have h2 : Fl.rung b < Fl.INF := by
      rcases Nat.lt_or_ge (Fl.rung b) Fl.INF with h3 | h3
      · exact h3
      · exact absurd (.inr h3) h
    have h3 := Fl.pe_lt h2
    have h4 := Fl.pm_lt b
    have h5 : Fl.pm b ≠ 0 := by
      intro e
      have := Fl.rung_parts b
      rcases Fl.pm_pe b with h6 | h6
      · omega
      · rw [e, h6] at this; omega
    have h6 : (Fl.pm b).log2 < 53 := (Nat.log2_lt h5).2 h4
    omega
/-- What a row, a column of the table X has. -/
def rG (X : Nat → Nat → Nat) (C i : Nat) : Int × Bool := gst (fun j => zB (X i j)) (fun j => expOf (X i j)) C
def cG (X : Nat → Nat → Nat) (R : Nat) (r : Nat → Int) (j : Nat) : Int × Bool := gst (fun i => zB (X i j)) (fun i => expOf (X i j) + r i) R
theorem rG_bound (X : Nat → Nat → Nat) (C i : Nat) : -1074 ≤ (rG X C i).1 ∧ (rG X C i).1 ≤ 1074 :=
  gst_bound (B := 1074) (by omega) (fun k _ => by have := expOf_bounds (X i k); omega)
theorem cG_bound (X : Nat → Nat → Nat) (R : Nat) (r : Nat → Int) (j : Nat) (h : ∀ i, i < R → -1074 ≤ r i ∧ r i ≤ 1074) : -2148 ≤ (cG X R r j).1 ∧ (cG X R r j).1 ≤ 2148 :=
  gst_bound (B := 2148) (by omega) (fun k hk => by have := expOf_bounds (X k j); have := h k hk; omega)
/-- The exponents, and the number of what is empty. -/
def rE (X : Nat → Nat → Nat) (C : Nat) : Nat → Int := ngs (rG X C)
def cE (X : Nat → Nat → Nat) (R C : Nat) : Nat → Int := ngs (cG X R (rE X C))
def fAt (X : Nat → Nat → Nat) (R C : Nat) : Nat := if fb (rG X C) R ≠ 0 then fb (rG X C) R else if fb (cG X R (rE X C)) C ≠ 0 then R + fb (cG X R (rE X C)) C else 0
theorem rE_bound (X : Nat → Nat → Nat) (C i : Nat) : -1074 ≤ rE X C i ∧ rE X C i ≤ 1074 := by
  have := rG_bound X C i
  unfold rE ngs
  omega
end Go.Proofs.Ytelpdbkkefpjhaa
