/-
The document's Write. Conditions: as it says.
-/
import Derived.Test.YtodoibioedelgaaGy
import Derived.Test.YtodoibioedelgaaGaa
set_option linter.unusedVariables false
set_option linter.unusedSimpArgs false
set_option linter.unnecessarySimpa false
namespace Go.Proofs.Ytodoibioedelgaa
open Go.RowKit
attribute [local go_sem ↓] Go.wp_at_zero Go.wp_at_succ

theorem kpv {d : Nat → Bool} {i j : Nat} {s : Nat → Value} {k : Nat} {dst : Option Nat} {v x : Value} (h : d j = true → s k = x) (hj : j ≠ i) (hk : dst ≠ some k) : did d i j = true → sput s dst v k = x := fun e => by
  rw [did_ne d hj] at e
  unfold sput
  rw [if_neg hk]
  exact h e

def GvRetF (w : World) (n : Nat) (l : List Nat) (e : Ending) (w' : World) : Prop := ∃ g c', e = .returned (.slice (some ⟨g, 0, none⟩) n c') ∧ Own w' g l ∧ w.heap.size ≤ g ∧ Below w.heap.size w w'
theorem GvRetF.mk {w w' : World} {n g c' : Nat} {l : List Nat} {e : Ending} (h : e = .returned (.slice (some ⟨g, 0, none⟩) n c')) (h1 : Own w' g l) (h2 : w.heap.size ≤ g) (h3 : Below w.heap.size w w') : GvRetF w n l e w' := ⟨g, c', h, h1, h2, h3⟩
theorem gv_rwrite_nil (c : Nat) (o i : Nat) (B : Option Addr) (d : Nat) (w : World) :
    Calls Try.prog 22 #[vec none 0 c o (0 : Nat) i, .slice B 0 d] w (GvRetF w 0 []) := by
  unfold vec
  go_enter Try.func22, Try.ntmps22
  go_wp2_with (at_builtin; refine wpList_append_nil _ rfl _ _ rfl rfl _ _ rfl rfl ?_)
  intro w' g c' hw' hg hc'
  have HB := Lib.hid (show Below w.heap.size w w' by rw [hw']; exact ((Below.refl w.heap.size w).alloc (Nat.le_refl _) (.cells #[.slice none 0 c, .int .i64 o, .int .i64 (0 : Nat), .int .i64 i] 27)).alloc (by simp) (.cells #[] 22))
  have H0 := Lib.hid (show Blk w' w.heap.size 27 #[.slice none 0 c, .int .i64 o, .int .i64 (0 : Nat), .int .i64 i] by rw [hw']; exact (Blk.new w 27 #[.slice none 0 c, .int .i64 o, .int .i64 (0 : Nat), .int .i64 i]).alloc (.cells #[] 22))
  have HO := Lib.hid (show Own w' g [] by rw [hw']; exact ⟨#[], Blk.new_ _ _ _ _ (by simp; omega), rfl⟩)
  have hg2 : w.heap.size ≤ g := by omega
  clear hw' hg hc'
  obtain ⟨k0, k1, k2, k3⟩ := cells4w H0.out
  go_wp2_with fail
  go_loop [6] (fun a => a = .int .i64 0) (fun a => 0)
  case atStart => rfl
  case round =>
    subst hrel
    go_wp2_with fail
    go_ret
    exact GvRetF.mk rfl HO.out hg2 HB.out

theorem gv_rwrite_any (A : Option Addr) (n c : Nat) (l : List Nat) (o K i : Nat) (B : Option Addr) (d : Nat) (m : List Nat) (w : World) (hA : Row w A (f64s l)) (hl : l.length = n) (hn : n < 1048576) (hi1 : 1 ≤ i) (hr : K = 0 ∨ o + (K - 1) * i < n) (hB : Row w B (f64s m)) (hm : m.length = K) :
    Calls Try.prog 22 #[vec A n c o K i, .slice B K d] w fun e w' => ∃ g c', e = .returned (.slice (some ⟨g, 0, none⟩) n c') ∧ Own w' g (wrt l o i m K) ∧ w.heap.size ≤ g ∧ Below w.heap.size w w' := by
  cases A with
  | some a => exact rwrite_some a n c l o K i B d m w hA hl hn hi1 hr hB hm
  | none =>
    rcases hA with h | ⟨b, o', h, _⟩
    · obtain rfl : l = [] := by simpa [f64s] using h
      subst hl
      have hK : K = 0 := by
        rcases hr with h | h
        · exact h
        · simp at h
      subst hK
      exact gv_rwrite_nil c o i B d w
    · cases h

end Go.Proofs.Ytodoibioedelgaa
