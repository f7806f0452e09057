/-
Lists: numbers that are taken from places and written to places. Conditions: as each says.
-/
import Derived.KernelRfl
import Derived.Test.YtcdhpoikppfjkaaZAVwO
import Derived.Deep.RegionHeld3
import Derived.Deep.DrawnRows
import Derived.Deep.DeepCutAuto
import Derived.Deep.CutBlock
import Derived.Deep.OwnRows
import Derived.IntWalk
set_option linter.unusedVariables false
namespace Go.Proofs.Ytcdhpoikppfjkaa

/-- What lies in the blocks, where block g holds l. -/
def upd (s : Nat → List Nat) (g : Nat) (l : List Nat) : Nat → List Nat := fun h => if h = g then l else s h
theorem upd_self (s : Nat → List Nat) (g : Nat) (l : List Nat) : upd s g l g = l := by simp [upd]
theorem upd_ne {s : Nat → List Nat} {g h : Nat} {l : List Nat} (hne : h ≠ g) : upd s g l h = s h := by simp [upd, hne]
theorem upd_upd (s : Nat → List Nat) (g : Nat) (l m : List Nat) : upd (upd s g l) g m = upd s g m := by
  funext h; unfold upd; split <;> rfl
theorem upd_same (s : Nat → List Nat) (g : Nat) : upd s g (s g) = s := by
  funext h; unfold upd; split
  · rename_i e; rw [e]
  · rfl
theorem getD_of_lt {l : List Nat} {i : Nat} (h : i < l.length) : l.getD i 0 = l[i] := by simp [List.getD, h]
theorem getD_of_le {l : List Nat} {i : Nat} (h : l.length ≤ i) : l.getD i 0 = 0 := by simp [List.getD, List.getElem?_eq_none h]
theorem getD_set_self {l : List Nat} {i : Nat} (h : i < l.length) (v : Nat) : (l.set i v).getD i 0 = v := by simp [List.getD, h]
theorem getD_set_ne (l : List Nat) {i j : Nat} (h : i ≠ j) (v : Nat) : (l.set i v).getD j 0 = l.getD j 0 := by
  rw [List.getD, List.getElem?_set_ne h, List.getD]
theorem ext_getD {l m : List Nat} (hl : l.length = m.length) (h : ∀ i, i < l.length → l.getD i 0 = m.getD i 0) : l = m := by
  refine List.ext_getElem hl fun i h1 h2 => ?_
  have := h i h1
  rwa [getD_of_lt h1, getD_of_lt h2] at this

/-- The numbers at off, off + inc, .. -/
def lst (l : List Nat) (off inc k : Nat) : List Nat := (List.range k).map fun i => l.getD (off + i * inc) 0
theorem lst_length (l : List Nat) (off inc k : Nat) : (lst l off inc k).length = k := by simp [lst]
theorem lst_getD (l : List Nat) (off inc : Nat) {k i : Nat} (h : i < k) : (lst l off inc k).getD i 0 = l.getD (off + i * inc) 0 := by
  simp [lst, List.getD, h]
/-- The numbers are written there. -/
def wrt (l : List Nat) (off inc : Nat) (q : List Nat) : Nat → List Nat
  | 0 => l
  | k + 1 => (wrt l off inc q k).set (off + k * inc) (q.getD k 0)
theorem wrt_length (l : List Nat) (off inc : Nat) (q : List Nat) (k : Nat) : (wrt l off inc q k).length = l.length := by
  induction k with
  | zero => rfl
  | succ k ih => simp [wrt, ih]
theorem wrt_else (l : List Nat) (off inc : Nat) (q : List Nat) (k : Nat) {x : Nat} (h : ∀ i, i < k → x ≠ off + i * inc) : (wrt l off inc q k).getD x 0 = l.getD x 0 := by
  induction k with
  | zero => rfl
  | succ k ih =>
    rw [wrt, getD_set_ne _ (fun e => h k (by omega) e.symm)]
    exact ih fun i hi => h i (by omega)
theorem place_inj {off inc i j : Nat} (hi : 1 ≤ inc) (h : off + i * inc = off + j * inc) : i = j := Nat.eq_of_mul_eq_mul_right hi (by omega)
theorem place_lt {n off inc k i : Nat} (h : off + (k - 1) * inc < n) (hi : i < k) : off + i * inc < n := by
  have : i * inc ≤ (k - 1) * inc := Nat.mul_le_mul_right _ (by omega)
  omega
theorem wrt_at (l : List Nat) (off inc : Nat) (q : List Nat) (k : Nat) (hi : 1 ≤ inc) (hk : k = 0 ∨ off + (k - 1) * inc < l.length) {i : Nat} (h : i < k) : (wrt l off inc q k).getD (off + i * inc) 0 = q.getD i 0 := by
  induction k with
  | zero => omega
  | succ k ih =>
    have hlt : off + k * inc < l.length := by
      rcases hk with hk | hk
      · omega
      · simpa using hk
    by_cases e : i = k
    · subst e
      rw [wrt, getD_set_self (by rw [wrt_length]; exact hlt)]
    · rw [wrt, getD_set_ne _ (fun e' => e (place_inj hi e'.symm))]
      refine ih ?_ (by omega)
      rcases Nat.eq_zero_or_pos k with h0 | h0
      · exact .inl h0
      · refine .inr ?_
        have : (k - 1) * inc ≤ k * inc := Nat.mul_le_mul_right _ (by omega)
        omega
end Go.Proofs.Ytcdhpoikppfjkaa
/-
Lists of floats: the document's Same and All, where all are the same. Conditions: the words are below 2^64.
-/
set_option linter.unusedVariables false
namespace Go.Proofs.Ytcdhpoikppfjkaa
open Go.RowKit
attribute [local go_sem ↓] Go.wp_at_zero Go.wp_at_succ

@[go_sem] theorem run_store_float (P : Program) (w : World) (a : Addr) (m : Mode) (k : FloatKind) (b : Nat) : (store a (.float k b) m).run P w = stored P w a (.float k b) m := run_store P w a _ m rfl

theorem kind_two (x : Nat) : (kindOf x == 2) = Fl.nan x := by
  unfold kindOf Fl.nan
  rw [Bool.eq_iff_iff, beq_iff_eq, decide_eq_true_eq]
  split
  · omega
  · split <;> omega

theorem rsame_v (a b : Nat) (w : World) (ha : a < 18446744073709551616) (hb : b < 18446744073709551616) :
    Calls Try.prog 27 #[.float .f64 a, .float .f64 b] w fun e w' => e = .returned (.bool (sameB a b)) ∧ w = w' := by
  have ka := kind_two a
  have kb := kind_two b
  have hc : (((a : Int) == (b : Int)) = true ∧ sameB a b = true) ∨ (((a : Int) == (b : Int)) = false ∧ ((Fl.nan a = true ∧ sameB a b = Fl.nan b) ∨ (Fl.nan a = false ∧ sameB a b = false))) := by
    by_cases h : a = b
    · exact .inl ⟨by simp [h], by simp [sameB, h]⟩
    · refine .inr ⟨by simp; omega, ?_⟩
      cases hn : Fl.nan a
      · exact .inr ⟨rfl, by simp [sameB, h, hn]⟩
      · exact .inl ⟨rfl, by simp [sameB, h, hn]⟩
  rcases hc with ⟨h1, h2⟩ | ⟨h1, ⟨h3, h2⟩ | ⟨h3, h2⟩⟩
  all_goals
    rw [h2]
    try rw [h3] at ka
    clear h2
    try clear h3
    go_enter Try.func27, Try.ntmps27
    go_wp2_with fail
    refine (parts_any a _ ha).mono ?_
    rintro e w' ⟨rfl, rfl⟩
    go_wp2_with fail
    refine (parts_any b _ hb).mono ?_
    rintro e w' ⟨rfl, rfl⟩
    go_wp2
    go_ret
    exact ⟨rfl, rfl⟩
theorem sameB_refl (a : Nat) : sameB a a = true := by simp [sameB]

/-- Two lists of the same numbers. -/
def Alike (x y : List Nat) : Prop := x.length = y.length ∧ ∀ (i : Nat) (h : i < x.length) (h' : i < y.length), sameB x[i] y[i] = true
theorem Alike.refl (x : List Nat) : Alike x x := ⟨rfl, fun i _ _ => sameB_refl _⟩

theorem rall_any (A B : Option Addr) (c d : Nat) (x y : List Nat) (w : World) (hx : Wds x) (hy : Wds y) (hA : Row w A (f64s x)) (hB : Row w B (f64s y)) (hl : x.length < 9223372036854775808) (h : Alike x y) :
    Calls Try.prog 14 #[.slice A x.length c, .slice B y.length d] w fun e w' => e = .returned (.bool true) ∧ Below w.heap.size w w' := by
  have hxy := h.1
  generalize hn : x.length = n at *
  have hn' : y.length = n := hxy.symm
  rw [hn']
  have HN := Lib.hid hn
  have HN' := Lib.hid hn'
  have HA := Lib.hid hA
  have HB := Lib.hid hB
  have HX := Lib.hid hx
  have HY := Lib.hid hy
  have HL := Lib.hid h
  clear hn hn' hA hB hx hy h hxy
  go_enter Try.func14, Try.ntmps14
  go_wp2
  go_loopw [5] (fun i wr => ∃ k : Nat, k ≤ n ∧ i = .int .i64 k ∧ Below w.heap.size w wr) (fun i _ => n - (intOf i).toNat)
  case atStart => exact ⟨0, Nat.zero_le _, rfl, Below.refl _ _⟩
  case round =>
    obtain ⟨k, hk, rfl, hbl⟩ := hrel
    have HBl := Lib.hid hbl
    clear hbl
    by_cases hlt : k < n
    · have hx1 : k < x.length := by rw [HN.out]; exact hlt
      have hy1 : k < y.length := by rw [HN'.out]; exact hlt
      obtain ⟨b, o, rfl, _, hcell⟩ := HA.out.at_ (f64s_get x k hx1)
      obtain ⟨b', o', rfl, _, hcell'⟩ := HB.out.at_ (f64s_get y k hy1)
      have HW := Lib.hid (HX.out.at_ k hx1)
      have HW' := Lib.hid (HY.out.at_ k hy1)
      have HS := Lib.hid (HL.out.2 k hx1 hy1)
      generalize x[k] = u at *
      generalize y[k] = v at *
      have hc1 := cell_below hcell HBl.out
      have hc2 := cell_below hcell' HBl.out
      clear hcell hcell'
      go_wp2_with fail
      go_region_held3 (fun w' => w'.cell? ⟨b, o + k, none⟩ = some (.float .f64 u) ∧ w'.cell? ⟨b', o' + k, none⟩ = some (.float .f64 v))
        (first | go_keep | exact ⟨hc1, hc2⟩)
        ((go_at_call 27; refine (rsame_v u v _ HW.out HW'.out).mono ?_; rw [HS.out]; rintro e w1 ⟨rfl, rfl⟩; skip))
      go_wp2_with fail
      go_roundw
      case rel => exact ⟨k + 1, by omega, by go_num, HBl.out.drew⟩
      case measure => simp [intOf]; omega
    · go_wp2
      go_ret
      exact ⟨rfl, HBl.out⟩
end Go.Proofs.Ytcdhpoikppfjkaa
