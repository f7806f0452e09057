/-
Sums: what they come to; a number of a vector; |x|; sums and products of two. Conditions: as each says.
-/
import Derived.Test.YtbdlfaclakppgaaFa
import Derived.Test.YtbdlfaclakppgaaMvN
set_option linter.unusedVariables false
namespace Go.Proofs.Ytbdlfaclakppgaa
open Go.RowKit
attribute [local go_sem ↓] Go.wp_at_zero Go.wp_at_succ

/-- The sum of the first products, in its order. -/
def dotF (l m : List Nat) : Nat → Nat
  | 0 => 0
  | k + 1 => fbin .add (dotF l m k) (fbin .mul (l.getD k 0) (m.getD k 0))
/-- A word without its sign. -/
def absW (b : Nat) : Nat := b % 9223372036854775808
/-- The sum of the first numbers without signs. -/
def asumF (l : List Nat) : Nat → Nat
  | 0 => 0
  | k + 1 => fbin .add (asumF l k) (absW (l.getD k 0))
/-- The sum of the first numbers. -/
def sumF (l : List Nat) : Nat → Nat
  | 0 => 0
  | k + 1 => fbin .add (sumF l k) (l.getD k 0)
/-- Is a greater than b? -/
def gtB (a b : Nat) : Bool := FloatKind.f64.format.order a b == some .gt
/-- The place of the greatest of the first numbers. -/
def mostF (l : List Nat) : Nat → Nat
  | 0 => 0
  | k + 1 => if gtB (absW (l.getD k 0)) (absW (l.getD (mostF l k) 0)) then k else mostF l k
theorem mostF_lt (l : List Nat) : ∀ k, 1 ≤ k → mostF l k < k
  | 0, h => by omega
  | k + 1, _ => by
    unfold mostF
    split
    · omega
    · by_cases hk : k = 0
      · subst hk; simp [mostF]
      · have := mostF_lt l k (by omega); omega
theorem absW_lt (b : Nat) : absW b < 9223372036854775808 := Nat.mod_lt _ (by omega)
theorem is_zero : Is 0 0 := Is.refl (by omega)

theorem sat_any (A : Option Addr) (n c : Nat) (l : List Nat) (o K i k : Nat) (w : World) (hA : Row w A (f64s l)) (hl : l.length = n) (hn : n < 1048576) (hP : o + k * i < n) :
    Calls Try.prog 47 #[vec A n c o K i, .int .i64 k] w fun e w' => e = .returned (.float .f64 (l.getD (o + k * i) 0)) ∧ Below w.heap.size w w' := by
  have hPl : o + k * i < l.length := by rw [hl]; exact hP
  obtain ⟨b, x, rfl, _, hcell0⟩ := hA.at_ (f64s_get l _ hPl)
  have hv : l.getD (o + k * i) 0 = l[o + k * i] := getD_of_lt hPl
  rw [hv]
  have HB := Lib.hid ((Below.refl w.heap.size w).alloc (Nat.le_refl _) (.cells #[.slice (some ⟨b, x, none⟩) n c, .int .i64 o, .int .i64 K, .int .i64 i] 45))
  have hcell := cell_below hcell0 HB.out
  generalize l[o + k * i] = v at *
  obtain ⟨a, ha⟩ : ∃ a, k * i = a := ⟨_, rfl⟩
  obtain ⟨P, hPd⟩ : ∃ P, o + k * i = P := ⟨_, rfl⟩
  have e1 : ((k : Int) * (i : Int)) = (a : Int) := by rw [← ha]; simp
  have e2 : (o : Int) + (a : Int) = (P : Int) := by rw [← hPd, ha]; simp
  have HW := Lib.hid (wrap3 (o := o) (a := a) (P := P) (by rw [← hPd]; omega) (by rw [← ha, hPd]))
  rw [hPd] at hcell hP
  have b1 : (P : Int) < (n : Int) := by omega
  have b0 : (0 : Int) ≤ (P : Int) := by omega
  clear hPl hcell0 hv ha hPd hP hA hl
  obtain ⟨u1, u2, u3, u4⟩ := HW.out
  unfold vec
  go_enter Try.func47, Try.ntmps47
  go_wp2_with fail
  go_ret
  exact ⟨rfl, HB.out⟩

theorem rplus_any (x y : Nat) (w : World) : Calls Try.prog 42 #[.float .f64 x, .float .f64 y] w fun e w' => ∃ r, e = .returned (.float .f64 r) ∧ Comes .add x y r ∧ Below w.heap.size w w' := by
  go_enter Try.func42, Try.ntmps42
  go_wp2_with fail
  go_ret
  exact ⟨_, rfl, fres_comes _ _ _ _, below_drewN (Below.refl _ _) _⟩

theorem mabs_any (b : Nat) (w : World) (hb : b < 18446744073709551616) : Calls Try.prog 39 #[.float .f64 b] w fun e w' => e = .returned (.float .f64 (absW b)) ∧ w = w' := by
  have e1 := bits_andNot_sign hb
  have e2 : b % 9223372036854775808 = absW b := rfl
  rw [e2] at e1
  clear e2
  generalize absW b = r at *
  go_enter Try.func39, Try.ntmps39
  go_wp2_with fail
  go_ret
  exact ⟨by simp, rfl⟩
theorem rabs_any (b : Nat) (w : World) (hb : b < 18446744073709551616) : Calls Try.prog 43 #[.float .f64 b] w fun e w' => e = .returned (.float .f64 (absW b)) ∧ w = w' := by
  have e1 : (b : Int) % 9223372036854775808 = ((absW b : Nat) : Int) := by unfold absW; omega
  go_enter Try.func43, Try.ntmps43
  go_wp2_with fail
  go_ret
  exact ⟨by simp [e1], rfl⟩
end Go.Proofs.Ytbdlfaclakppgaa
