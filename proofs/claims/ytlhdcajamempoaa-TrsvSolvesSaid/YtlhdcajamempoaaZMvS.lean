/-
Write, of any list; what Copy and Swap do to two lists. Conditions: as each says.
-/
import Derived.Test.YtlhdcajamempoaaZMvO
set_option linter.unusedVariables false
namespace Go.Proofs.Ytlhdcajamempoaa
open Go.RowKit
attribute [local go_sem ↓] Go.wp_at_zero Go.wp_at_succ

def RetF (w : World) (n : Nat) (l : List Nat) (e : Ending) (w' : World) : Prop := ∃ g c', e = .returned (.slice (some ⟨g, 0, none⟩) n c') ∧ Own w' g l ∧ w.heap.size ≤ g ∧ Below w.heap.size w w'
theorem RetF.mk {w w' : World} {n g c' : Nat} {l : List Nat} {e : Ending} (h : e = .returned (.slice (some ⟨g, 0, none⟩) n c')) (h1 : Own w' g l) (h2 : w.heap.size ≤ g) (h3 : Below w.heap.size w w') : RetF w n l e w' := ⟨g, c', h, h1, h2, h3⟩
theorem rwrite_nil (c : Nat) (o i : Nat) (B : Option Addr) (d : Nat) (w : World) :
    Calls Try.prog 27 #[vec none 0 c o (0 : Nat) i, .slice B 0 d] w (RetF w 0 []) := by
  unfold vec
  go_enter Try.func27, Try.ntmps27
  go_wp2_with (at_builtin; refine wpList_append_nil _ rfl _ _ rfl rfl _ _ rfl rfl ?_)
  intro w' g c' hw' hg hc'
  have HB := Lib.hid (show Below w.heap.size w w' by rw [hw']; exact ((Below.refl w.heap.size w).alloc (Nat.le_refl _) (.cells #[.slice none 0 c, .int .i64 o, .int .i64 (0 : Nat), .int .i64 i] 32)).alloc (by simp) (.cells #[] 28))
  have H0 := Lib.hid (show Blk w' w.heap.size 32 #[.slice none 0 c, .int .i64 o, .int .i64 (0 : Nat), .int .i64 i] by rw [hw']; exact (Blk.new w 32 #[.slice none 0 c, .int .i64 o, .int .i64 (0 : Nat), .int .i64 i]).alloc (.cells #[] 28))
  have HO := Lib.hid (show Own w' g [] by rw [hw']; exact ⟨#[], Blk.new_ _ _ _ _ (by simp; omega), rfl⟩)
  have hg2 : w.heap.size ≤ g := by omega
  clear hw' hg hc'
  obtain ⟨k0, k1, k2, k3⟩ := cells4w H0.out
  go_wp2_with fail
  go_loop [6] (fun a => a = .int .i64 0) (fun a => 0)
  case atStart => rfl
  case round =>
    subst hrel
    go_wp2_with fail
    go_ret
    exact RetF.mk rfl HO.out hg2 HB.out

theorem rwrite_any (A : Option Addr) (n c : Nat) (l : List Nat) (o K i : Nat) (B : Option Addr) (d : Nat) (m : List Nat) (w : World) (hA : Row w A (f64s l)) (hl : l.length = n) (hn : n < 1048576) (hi1 : 1 ≤ i) (hr : K = 0 ∨ o + (K - 1) * i < n) (hB : Row w B (f64s m)) (hm : m.length = K) :
    Calls Try.prog 27 #[vec A n c o K i, .slice B K d] w fun e w' => ∃ g c', e = .returned (.slice (some ⟨g, 0, none⟩) n c') ∧ Own w' g (wrt l o i m K) ∧ w.heap.size ≤ g ∧ Below w.heap.size w w' := by
  cases A with
  | some a => exact rwrite_some a n c l o K i B d m w hA hl hn hi1 hr hB hm
  | none =>
    rcases hA with h | ⟨b, o', h, _⟩
    · obtain rfl : l = [] := by simpa [f64s] using h
      subst hl
      have hK : K = 0 := by
        rcases hr with h | h
        · exact h
        · simp at h
      subst hK
      exact rwrite_nil c o i B d w
    · cases h

/-- A list of floats stays, where a struct's cell is written. -/
theorem row_set {W : World} {A : Option Addr} {l : List Nat} {r : Nat} {t : TypeId} {x0 x1 x2 x3 : Value} (h : Row W A (f64s l)) (hB : Blk W r t #[x0, x1, x2, x3]) (ht : t ≠ 28) (hx : ∀ (i : Nat) (b : Nat), (#[x0, x1, x2, x3] : Array Value)[i]? ≠ some (.float .f64 b)) (u : Value) : Row (W.setCell ⟨r, 0, none⟩ u) A (f64s l) := by
  rcases h with h | ⟨b, o, e, hc⟩
  · exact .inl h
  · refine .inr ⟨b, o, e, fun i v hv => ?_⟩
    have h1 := hc i v hv
    obtain ⟨hi, rfl⟩ := f64s_get? hv
    have hne : b ≠ r := by
      rintro rfl
      rw [hB.cell] at h1
      exact hx _ _ h1
    exact (cell_set hne u).trans h1
theorem vec_nofloat (A : Option Addr) (n c : Nat) (off k inc : Int) : ∀ (i : Nat) (b : Nat), (#[.slice A n c, .int .i64 off, .int .i64 k, .int .i64 inc] : Array Value)[i]? ≠ some (.float .f64 b) := by
  intro i b h
  match i with
  | 0 => simp at h
  | 1 => simp at h
  | 2 => simp at h
  | 3 => simp at h
  | i + 4 => simp at h
theorem wds_lst {l : List Nat} (h : Wds l) (o i K : Nat) : Wds (lst l o i K) := by
  intro b hb
  unfold lst at hb
  obtain ⟨x, _, rfl⟩ := List.mem_map.1 hb
  rcases Nat.lt_or_ge (o + x * i) l.length with hl | hl
  · rw [getD_of_lt hl]; exact h _ (List.getElem_mem hl)
  · rw [getD_of_le hl]; decide
theorem wds_set {l : List Nat} (h : Wds l) {v : Nat} (hv : v < 18446744073709551616) (p : Nat) : Wds (l.set p v) := by
  intro b hb
  rcases List.mem_or_eq_of_mem_set hb with h1 | h1
  · exact h b h1
  · subst h1; exact hv
theorem wds_getD {l : List Nat} (h : Wds l) (p : Nat) : l.getD p 0 < 18446744073709551616 := by
  rcases Nat.lt_or_ge p l.length with hl | hl
  · rw [getD_of_lt hl]; exact h _ (List.getElem_mem hl)
  · rw [getD_of_le hl]; decide
theorem wds_wrt {l q : List Nat} (h : Wds l) (hq : Wds q) (o i : Nat) : ∀ K, Wds (wrt l o i q K)
  | 0 => h
  | K + 1 => wds_set (wds_wrt h hq o i K) (wds_getD hq K) _

end Go.Proofs.Ytlhdcajamempoaa
