/-
The example; Great; Take. Conditions: as each says.
-/
import Derived.Test.YtbeefnekblepfaaUaaj
import Derived.Test.YtbeefnekblepfaaUaad
import Derived.Test.YtbeefnekblepfaaUaak
set_option linter.unusedVariables false
namespace Go.Proofs.Ytbeefnekblepfaa
open Go.RowKit
attribute [local go_sem ↓] Go.wp_at_zero Go.wp_at_succ

theorem img_ex {l' : List Nat} {a b c d : Nat} (h : Img [a, b, c, d] 0 2 2 2 (fun x y => ([a, b, c, d] : List Nat).getD (0 + sw 0 1 x + y * 2) 0) l') : l' = [b, a, d, c] := by
  obtain ⟨h1, h2, h3⟩ := h
  refine ext_getD (by simpa using h1) fun i hi => ?_
  have hi4 : i < 4 := by simp at h1; omega
  have q0 := h2 0 (by omega) 0 (by omega)
  have q1 := h2 1 (by omega) 0 (by omega)
  have q2 := h2 0 (by omega) 1 (by omega)
  have q3 := h2 1 (by omega) 1 (by omega)
  simp [sw] at q0 q1 q2 q3
  match i, hi4 with
  | 0, _ => simpa using q0
  | 1, _ => simpa using q1
  | 2, _ => simpa using q2
  | 3, _ => simpa using q3
theorem four_wds4 : Wds [4613937818241073152, 4607182418800017408, 4616189618054758400, 4611686018427387904] := by
  intro b hb
  simp at hb
  omega

/-- Is there more of a matrix than is looked at? -/
def greatB (n : Nat) (r k : Int) : Bool := decide (1000 < n) || decide (20 < r) || decide (20 < k)
theorem great_any (A : Option Addr) (n c : Nat) (off r k ld : Int) (w : World) : Calls Try.prog 17 #[mat A n c off r k ld] w fun e w' => e = .returned (.bool (greatB n r k)) ∧ Below w.heap.size w w' := by
  have hbel := fun (o : Obj) => (Below.refl w.heap.size w).alloc (Nat.le_refl _) o
  have e0 : decide ((1000 : Int) < (n : Int)) = decide (1000 < n) := decide_eq_decide.2 (by omega)
  unfold mat greatB
  by_cases h1 : (1000 : Int) < (n : Int)
  · have h2 : decide (1000 < n) = true := by simp; omega
    rw [h2]
    go_enter Try.func17, Try.ntmps17
    go_wp2_with fail
    go_ret
    exact ⟨by simp, hbel _⟩
  · have h2 : decide (1000 < n) = false := by simp; omega
    rw [h2]
    by_cases h3 : 20 < r
    · go_enter Try.func17, Try.ntmps17
      go_wp2_with fail
      go_ret
      exact ⟨by simp <;> omega, hbel _⟩
    · go_enter Try.func17, Try.ntmps17
      go_wp2_with fail
      go_ret
      exact ⟨by simp <;> omega, hbel _⟩
end Go.Proofs.Ytbeefnekblepfaa
/-
Take: rows that change places in an order. Conditions: as each says.
-/
set_option linter.unusedVariables false
namespace Go.Proofs.Ytbeefnekblepfaa
open Go.RowKit
attribute [local go_sem ↓] Go.wp_at_zero Go.wp_at_succ

/-- Is each from its own place to r - 1? -/
def OrdOk (r : Int) (zs : List Int) (k : Nat) : Prop := ∀ i (h : i < zs.length), i < k → (i : Int) ≤ zs[i] ∧ zs[i] < r
/-- The answer of takes. -/
def TakesI (n : Nat) (off r k ld : Int) (zs : List Int) (e : Int) : Prop :=
  (matB n off r k ld = false ∧ e = 1) ∨ (matB n off r k ld = true ∧ r < zs.length ∧ e = 3) ∨ (matB n off r k ld = true ∧ (zs.length : Int) ≤ r ∧ ((e = 0 ∧ OrdOk r zs zs.length) ∨ (e = 1 ∧ ¬ OrdOk r zs zs.length)))

/-- The row that stands at a when the first k changes of the order have been made. -/
def prm (zs : List Int) : Nat → Nat → Nat
  | 0, a => a
  | k + 1, a => prm zs k (sw k (zs.getD k 0).toNat a)
theorem prm_lt {zs : List Int} {R : Nat} : ∀ {k : Nat}, OrdOk R zs k → k ≤ zs.length → ∀ {a : Nat}, a < R → prm zs k a < R
  | 0, _, _, a, ha => ha
  | k + 1, h, hk, a, ha => by
    have h1 := h k (by omega) (by omega)
    have e : zs.getD k 0 = zs[k] := by simp [List.getD, show k < zs.length by omega]
    refine prm_lt (k := k) (fun i hi hik => h i hi (by omega)) (by omega) (sw_lt (by omega) (by rw [e]; omega) ha)

theorem Img.step {l m m' : List Nat} {o R C L i j : Nat} {zs : List Int} {q : Nat} (h : Img l o R C L (fun a b => l.getD (o + prm zs q a + b * L) 0) m) (h' : Img m o R C L (fun a b => m.getD (o + sw i j a + b * L) 0) m') (hi : i < R) (hj : j < R) :
    Img l o R C L (fun a b => l.getD (o + prm zs q (sw i j a) + b * L) 0) m' :=
  (h.trans h').congr fun a ha b hb => h.2.1 _ (sw_lt hi hj ha) b hb

end Go.Proofs.Ytbeefnekblepfaa
/-
MoveBack. Conditions: as each says.
-/
set_option linter.unusedVariables false
namespace Go.Proofs.Ytbeefnekblepfaa
open Go.RowKit
attribute [local go_sem ↓] Go.wp_at_zero Go.wp_at_succ

theorem heldG6 {W w' : World} {G : List Nat} {b0 o0 b1 o1 b2 o2 b3 o3 b4 o4 b5 o5 : Nat} {v0 v1 v2 v3 v4 v5 : Value} {R : World → Prop} (h : W.cell? ⟨b0, o0, none⟩ = some v0 ∧ W.cell? ⟨b1, o1, none⟩ = some v1 ∧ W.cell? ⟨b2, o2, none⟩ = some v2 ∧ W.cell? ⟨b3, o3, none⟩ = some v3 ∧ W.cell? ⟨b4, o4, none⟩ = some v4 ∧ W.cell? ⟨b5, o5, none⟩ = some v5 ∧ R W) (hc : Chg G W w') (n0 : b0 ∉ G) (n1 : b1 ∉ G) (n2 : b2 ∉ G) (n3 : b3 ∉ G) (n4 : b4 ∉ G) (n5 : b5 ∉ G) (hR : R W → R w') :
    w'.cell? ⟨b0, o0, none⟩ = some v0 ∧ w'.cell? ⟨b1, o1, none⟩ = some v1 ∧ w'.cell? ⟨b2, o2, none⟩ = some v2 ∧ w'.cell? ⟨b3, o3, none⟩ = some v3 ∧ w'.cell? ⟨b4, o4, none⟩ = some v4 ∧ w'.cell? ⟨b5, o5, none⟩ = some v5 ∧ R w' :=
  ⟨hc.cell n0 h.1, hc.cell n1 h.2.1, hc.cell n2 h.2.2.1, hc.cell n3 h.2.2.2.1, hc.cell n4 h.2.2.2.2.1, hc.cell n5 h.2.2.2.2.2.1, hR h.2.2.2.2.2.2⟩
theorem row_lt {w : World} {B : Option Addr} {xs : List Value} (h : Row w B xs) (hne : xs ≠ []) : ∀ b x, B = some ⟨b, x, none⟩ → b < w.heap.size := by
  intro b x e
  rcases h with h | ⟨b', o', e', hc⟩
  · exact (hne h).elim
  · rw [e] at e'
    injection e' with e'
    injection e' with e1 e2 e3
    subst e1
    cases xs with
    | nil => exact (hne rfl).elim
    | cons v xs => exact block_lt (hc 0 v rfl)
theorem i64s_ne {zs : List Int} (h : zs ≠ []) : i64s zs ≠ [] := by
  cases zs with
  | nil => exact (h rfl).elim
  | cons a b => simp [i64s]

end Go.Proofs.Ytbeefnekblepfaa
/-
Alone, Long, List, Write: the document's vectors. Conditions: as each says.
-/
set_option linter.unusedVariables false
namespace Go.Proofs.Ytbeefnekblepfaa
open Go.RowKit
attribute [local go_sem ↓] Go.wp_at_zero Go.wp_at_succ

/-- Is there more of a vector than is looked at? -/
def longB (n : Nat) (k : Int) : Bool := decide (1000 < n) || decide (60 < k)
end Go.Proofs.Ytbeefnekblepfaa
/-
The document's Pair. Conditions: as each says.
-/
set_option linter.unusedVariables false
namespace Go.Proofs.Ytbeefnekblepfaa
open Go.RowKit
attribute [local go_sem ↓] Go.wp_at_zero Go.wp_at_succ

theorem wrap4 {o o' a a' P Q : Nat} (hP : P < 1048576) (hQ : Q < 1048576) (h : o + a = P) (h' : o' + a' = Q) : wrap64 (a : Int) = (a : Int) ∧ wrap64 (a' : Int) = (a' : Int) ∧ wrap64 (P : Int) = (P : Int) ∧ wrap64 (Q : Int) = (Q : Int) :=
  ⟨wrap_id (by unfold I64; omega), wrap_id (by unfold I64; omega), wrap_id (by unfold I64; omega), wrap_id (by unfold I64; omega)⟩
end Go.Proofs.Ytbeefnekblepfaa
/-
List, Write: the document's numbers of a vector. Conditions: the vector is right, its list has at most 2^20 numbers.
-/
set_option linter.unusedVariables false
namespace Go.Proofs.Ytbeefnekblepfaa
open Go.RowKit
attribute [local go_sem ↓] Go.wp_at_zero Go.wp_at_succ

theorem wrap3 {o a P : Nat} (hP : P < 1048576) (h : o + a = P) : wrap64 (a : Int) = (a : Int) ∧ wrap64 (P : Int) = (P : Int) ∧ IntKind.i64.wrap (a : Int) = (a : Int) ∧ IntKind.i64.wrap (P : Int) = (P : Int) :=
  ⟨wrap_id (by unfold I64; omega), wrap_id (by unfold I64; omega), wrapi (by omega) (by omega), wrapi (by omega) (by omega)⟩
theorem f64s_snoc (l : List Nat) (x : Nat) : f64s (l ++ [x]) = f64s l ++ [.float .f64 x] := by simp [f64s]
theorem own_row {w : World} {B : Nat} {v : Value} {n : Nat} {l : List Nat} (h : w.ownsRow B 23 1 v n (f64s l)) (hn : n = l.length) : ∃ A c, v = .slice A n c ∧ Row w A (f64s l) := by
  by_cases hv : v = .slice none 0 0
  · subst hv
    have hl := h.1
    obtain ⟨_, ⟨_, h0⟩ | ⟨g, cap, cur, h1, _⟩⟩ := h
    · subst h0
      have : l = [] := List.length_eq_zero_iff.1 hn.symm
      subst this
      exact ⟨none, 0, rfl, .inl rfl⟩
    · cases h1
  · obtain ⟨g, c, rfl, _, _, _, ho⟩ := own_of h hv hn
    exact ⟨_, c, rfl, ho.row⟩

end Go.Proofs.Ytbeefnekblepfaa
/-
Sums: what they come to; a number of a vector; |x|; sums and products of two. Conditions: as each says.
-/
set_option linter.unusedVariables false
namespace Go.Proofs.Ytbeefnekblepfaa
open Go.RowKit
attribute [local go_sem ↓] Go.wp_at_zero Go.wp_at_succ

/-- The sum of the first products, in its order. -/
def dotF (l m : List Nat) : Nat → Nat
  | 0 => 0
  | k + 1 => fbin .add (dotF l m k) (fbin .mul (l.getD k 0) (m.getD k 0))
/-- A word without its sign. -/
def absW (b : Nat) : Nat := b % 9223372036854775808
/-- The sum of the first numbers without signs. -/
def asumF (l : List Nat) : Nat → Nat
  | 0 => 0
  | k + 1 => fbin .add (asumF l k) (absW (l.getD k 0))
/-- The sum of the first numbers. -/
def sumF (l : List Nat) : Nat → Nat
  | 0 => 0
  | k + 1 => fbin .add (sumF l k) (l.getD k 0)
/-- Is a greater than b? -/
def gtB (a b : Nat) : Bool := FloatKind.f64.format.order a b == some .gt
/-- The place of the greatest of the first numbers. -/
def mostF (l : List Nat) : Nat → Nat
  | 0 => 0
  | k + 1 => if gtB (absW (l.getD k 0)) (absW (l.getD (mostF l k) 0)) then k else mostF l k
theorem mostF_lt (l : List Nat) : ∀ k, 1 ≤ k → mostF l k < k
  | 0, h => by omega
  | k + 1, _ => by
    unfold mostF
    split
    · omega
    · by_cases hk : k = 0
      · subst hk; simp [mostF]
      · have := mostF_lt l k (by omega); omega
theorem absW_lt (b : Nat) : absW b < 9223372036854775808 := Nat.mod_lt _ (by omega)
theorem is_zero : Is 0 0 := Is.refl (by omega)

theorem rtimes_any (x y : Nat) (w : World) : Calls Try.prog 29 #[.float .f64 x, .float .f64 y] w fun e w' => ∃ r, e = .returned (.float .f64 r) ∧ Comes .mul x y r ∧ Below w.heap.size w w' := by
  go_enter Try.func29, Try.ntmps29
  go_wp2_with fail
  go_ret
  exact ⟨_, rfl, fres_comes _ _ _ _, below_drewN (Below.refl _ _) _⟩
theorem rplus_any (x y : Nat) (w : World) : Calls Try.prog 28 #[.float .f64 x, .float .f64 y] w fun e w' => ∃ r, e = .returned (.float .f64 r) ∧ Comes .add x y r ∧ Below w.heap.size w w' := by
  go_enter Try.func28, Try.ntmps28
  go_wp2_with fail
  go_ret
  exact ⟨_, rfl, fres_comes _ _ _ _, below_drewN (Below.refl _ _) _⟩

end Go.Proofs.Ytbeefnekblepfaa
