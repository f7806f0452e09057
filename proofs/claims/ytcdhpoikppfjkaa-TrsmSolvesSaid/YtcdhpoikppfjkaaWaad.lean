/-
Lists: numbers that are taken from places and written to places. Conditions: as each says.
-/
import Derived.KernelRfl
import Derived.Test.YtcdhpoikppfjkaaWaac
import Derived.Deep.RegionHeld3
import Derived.Deep.DrawnRows
import Derived.Deep.DeepCutAuto
import Derived.Deep.CutBlock
import Derived.Deep.OwnRows
import Derived.IntWalk
set_option linter.unusedVariables false
namespace Go.Proofs.Ytcdhpoikppfjkaa

/-- What lies in the blocks, where block g holds l. -/
def upd (s : Nat → List Nat) (g : Nat) (l : List Nat) : Nat → List Nat := fun h => if h = g then l else s h
theorem upd_self (s : Nat → List Nat) (g : Nat) (l : List Nat) : upd s g l g = l := by simp [upd]
theorem upd_ne {s : Nat → List Nat} {g h : Nat} {l : List Nat} (hne : h ≠ g) : upd s g l h = s h := by simp [upd, hne]
theorem upd_upd (s : Nat → List Nat) (g : Nat) (l m : List Nat) : upd (upd s g l) g m = upd s g m := by
  funext h; unfold upd; split <;> rfl
theorem upd_same (s : Nat → List Nat) (g : Nat) : upd s g (s g) = s := by
  funext h; unfold upd; split
  · rename_i e; rw [e]
  · rfl
theorem getD_of_lt {l : List Nat} {i : Nat} (h : i < l.length) : l.getD i 0 = l[i] := by simp [List.getD, h]
theorem getD_of_le {l : List Nat} {i : Nat} (h : l.length ≤ i) : l.getD i 0 = 0 := by simp [List.getD, List.getElem?_eq_none h]
theorem getD_set_self {l : List Nat} {i : Nat} (h : i < l.length) (v : Nat) : (l.set i v).getD i 0 = v := by simp [List.getD, h]
theorem getD_set_ne (l : List Nat) {i j : Nat} (h : i ≠ j) (v : Nat) : (l.set i v).getD j 0 = l.getD j 0 := by
  rw [List.getD, List.getElem?_set_ne h, List.getD]
theorem ext_getD {l m : List Nat} (hl : l.length = m.length) (h : ∀ i, i < l.length → l.getD i 0 = m.getD i 0) : l = m := by
  refine List.ext_getElem hl fun i h1 h2 => ?_
  have := h i h1
  rwa [getD_of_lt h1, getD_of_lt h2] at this

/-- The numbers at off, off + inc, .. -/
def lst (l : List Nat) (off inc k : Nat) : List Nat := (List.range k).map fun i => l.getD (off + i * inc) 0
theorem lst_length (l : List Nat) (off inc k : Nat) : (lst l off inc k).length = k := by simp [lst]
theorem lst_getD (l : List Nat) (off inc : Nat) {k i : Nat} (h : i < k) : (lst l off inc k).getD i 0 = l.getD (off + i * inc) 0 := by
  simp [lst, List.getD, h]
/-- The numbers are written there. -/
def wrt (l : List Nat) (off inc : Nat) (q : List Nat) : Nat → List Nat
  | 0 => l
  | k + 1 => (wrt l off inc q k).set (off + k * inc) (q.getD k 0)
theorem wrt_length (l : List Nat) (off inc : Nat) (q : List Nat) (k : Nat) : (wrt l off inc q k).length = l.length := by
  induction k with
  | zero => rfl
  | succ k ih => simp [wrt, ih]
theorem wrt_else (l : List Nat) (off inc : Nat) (q : List Nat) (k : Nat) {x : Nat} (h : ∀ i, i < k → x ≠ off + i * inc) : (wrt l off inc q k).getD x 0 = l.getD x 0 := by
  induction k with
  | zero => rfl
  | succ k ih =>
    rw [wrt, getD_set_ne _ (fun e => h k (by omega) e.symm)]
    exact ih fun i hi => h i (by omega)
theorem place_inj {off inc i j : Nat} (hi : 1 ≤ inc) (h : off + i * inc = off + j * inc) : i = j := Nat.eq_of_mul_eq_mul_right hi (by omega)
theorem place_lt {n off inc k i : Nat} (h : off + (k - 1) * inc < n) (hi : i < k) : off + i * inc < n := by
  have : i * inc ≤ (k - 1) * inc := Nat.mul_le_mul_right _ (by omega)
  omega
theorem wrt_at (l : List Nat) (off inc : Nat) (q : List Nat) (k : Nat) (hi : 1 ≤ inc) (hk : k = 0 ∨ off + (k - 1) * inc < l.length) {i : Nat} (h : i < k) : (wrt l off inc q k).getD (off + i * inc) 0 = q.getD i 0 := by
  induction k with
  | zero => omega
  | succ k ih =>
    have hlt : off + k * inc < l.length := by
      rcases hk with hk | hk
      · omega
      · simpa using hk
    by_cases e : i = k
    · subst e
      rw [wrt, getD_set_self (by rw [wrt_length]; exact hlt)]
    · rw [wrt, getD_set_ne _ (fun e' => e (place_inj hi e'.symm))]
      refine ih ?_ (by omega)
      rcases Nat.eq_zero_or_pos k with h0 | h0
      · exact .inl h0
      · refine .inr ?_
        have : (k - 1) * inc ≤ k * inc := Nat.mul_le_mul_right _ (by omega)
        omega
end Go.Proofs.Ytcdhpoikppfjkaa
/-
Lists of floats: the document's Same and All, where all are the same. Conditions: the words are below 2^64.
-/
set_option linter.unusedVariables false
namespace Go.Proofs.Ytcdhpoikppfjkaa
open Go.RowKit
attribute [local go_sem ↓] Go.wp_at_zero Go.wp_at_succ

@[go_sem] theorem run_store_float (P : Program) (w : World) (a : Addr) (m : Mode) (k : FloatKind) (b : Nat) : (store a (.float k b) m).run P w = stored P w a (.float k b) m := run_store P w a _ m rfl

theorem kind_two (x : Nat) : (kindOf x == 2) = Fl.nan x := by
  unfold kindOf Fl.nan
  rw [Bool.eq_iff_iff, beq_iff_eq, decide_eq_true_eq]
  split
  · omega
  · split <;> omega

theorem rsame_v (a b : Nat) (w : World) (ha : a < 18446744073709551616) (hb : b < 18446744073709551616) :
    Calls Try.prog 27 #[.float .f64 a, .float .f64 b] w fun e w' => e = .returned (.bool (sameB a b)) ∧ w = w' := by
  have ka := kind_two a
  have kb := kind_two b
  have hc : (((a : Int) == (b : Int)) = true ∧ sameB a b = true) ∨ (((a : Int) == (b : Int)) = false ∧ ((Fl.nan a = true ∧ sameB a b = Fl.nan b) ∨ (Fl.nan a = false ∧ sameB a b = false))) := by
    by_cases h : a = b
    · exact .inl ⟨by simp [h], by simp [sameB, h]⟩
    · refine .inr ⟨by simp; omega, ?_⟩
      cases hn : Fl.nan a
      · exact .inr ⟨rfl, by simp [sameB, h, hn]⟩
      · exact .inl ⟨rfl, by simp [sameB, h, hn]⟩
  rcases hc with ⟨h1, h2⟩ | ⟨h1, ⟨h3, h2⟩ | ⟨h3, h2⟩⟩
  all_goals
    rw [h2]
    try rw [h3] at ka
    clear h2
    try clear h3
    go_enter Try.func27, Try.ntmps27
    go_wp2_with fail
    refine (parts_any a _ ha).mono ?_
    rintro e w' ⟨rfl, rfl⟩
    go_wp2_with fail
    refine (parts_any b _ hb).mono ?_
    rintro e w' ⟨rfl, rfl⟩
    go_wp2
    go_ret
    exact ⟨rfl, rfl⟩
theorem sameB_refl (a : Nat) : sameB a a = true := by simp [sameB]

/-- Two lists of the same numbers. -/
def Alike (x y : List Nat) : Prop := x.length = y.length ∧ ∀ (i : Nat) (h : i < x.length) (h' : i < y.length), sameB x[i] y[i] = true
theorem Alike.refl (x : List Nat) : Alike x x := ⟨rfl, fun i _ _ => sameB_refl _⟩

theorem rall_any (A B : Option Addr) (c d : Nat) (x y : List Nat) (w : World) (hx : Wds x) (hy : Wds y) (hA : Row w A (f64s x)) (hB : Row w B (f64s y)) (hl : x.length < 9223372036854775808) (h : Alike x y) :
    Calls Try.prog 14 #[.slice A x.length c, .slice B y.length d] w fun e w' => e = .returned (.bool true) ∧ Below w.heap.size w w' := by
  have hxy := h.1
  generalize hn : x.length = n at *
  have hn' : y.length = n := hxy.symm
  rw [hn']
  have HN := Lib.hid hn
  have HN' := Lib.hid hn'
  have HA := Lib.hid hA
  have HB := Lib.hid hB
  have HX := Lib.hid hx
  have HY := Lib.hid hy
  have HL := Lib.hid h
  clear hn hn' hA hB hx hy h hxy
  go_enter Try.func14, Try.ntmps14
  go_wp2
  go_loopw [5] (fun i wr => ∃ k : Nat, k ≤ n ∧ i = .int .i64 k ∧ Below w.heap.size w wr) (fun i _ => n - (intOf i).toNat)
  case atStart => exact ⟨0, Nat.zero_le _, rfl, Below.refl _ _⟩
  case round =>
    obtain ⟨k, hk, rfl, hbl⟩ := hrel
    have HBl := Lib.hid hbl
    clear hbl
    by_cases hlt : k < n
    · have hx1 : k < x.length := by rw [HN.out]; exact hlt
      have hy1 : k < y.length := by rw [HN'.out]; exact hlt
      obtain ⟨b, o, rfl, _, hcell⟩ := HA.out.at_ (f64s_get x k hx1)
      obtain ⟨b', o', rfl, _, hcell'⟩ := HB.out.at_ (f64s_get y k hy1)
      have HW := Lib.hid (HX.out.at_ k hx1)
      have HW' := Lib.hid (HY.out.at_ k hy1)
      have HS := Lib.hid (HL.out.2 k hx1 hy1)
      generalize x[k] = u at *
      generalize y[k] = v at *
      have hc1 := cell_below hcell HBl.out
      have hc2 := cell_below hcell' HBl.out
      clear hcell hcell'
      go_wp2_with fail
      go_region_held3 (fun w' => w'.cell? ⟨b, o + k, none⟩ = some (.float .f64 u) ∧ w'.cell? ⟨b', o' + k, none⟩ = some (.float .f64 v))
        (first | go_keep | exact ⟨hc1, hc2⟩)
        ((go_at_call 27; refine (rsame_v u v _ HW.out HW'.out).mono ?_; rw [HS.out]; rintro e w1 ⟨rfl, rfl⟩; skip))
      go_wp2_with fail
      go_roundw
      case rel => exact ⟨k + 1, by omega, by go_num, HBl.out.drew⟩
      case measure => simp [intOf]; omega
    · go_wp2
      go_ret
      exact ⟨rfl, HBl.out⟩
end Go.Proofs.Ytcdhpoikppfjkaa
/-
Trsv, pure: a triangle's numbers; what each number of the solution is, after so many steps. Conditions: none.
-/
set_option linter.unusedVariables false
set_option linter.unusedSimpArgs false
set_option linter.unnecessarySimpa false
namespace Go.Proofs.Ytcdhpoikppfjkaa
open Go.RowKit

/-- The number of row i and column k of a kind's triangle: of a matrix whose numbers are f. -/
def trV (kd : Nat) (f : Nat → Nat → Nat) (i k : Nat) : Nat :=
  if kd = 1 then (if i = k then 4607182418800017408 else f i k) else if kd = 2 then f i k else if kd = 3 then (if k = i then 4607182418800017408 else f k i) else f k i
/-- Isn't it said to be 0? -/
def trT (kd i k : Nat) : Bool := if kd = 1 ∨ kd = 4 then decide (k ≤ i) else decide (i ≤ k)
/-- A number, after so many of its products have been taken off. -/
def trE (a : Nat → Nat) (x : Nat) (s : Nat → Nat) (F : Nat → Nat) : Nat → Nat
  | 0 => x
  | t + 1 => fbin .sub (trE a x s F t) (fbin .mul (a (s t)) (F (s t)))
theorem trE_congr {a : Nat → Nat} {x : Nat} {s F F' : Nat → Nat} : ∀ {t : Nat}, (∀ q, q < t → F (s q) = F' (s q)) → trE a x s F t = trE a x s F' t
  | 0, _ => rfl
  | t + 1, h => by
    show fbin .sub _ _ = fbin .sub _ _
    rw [trE_congr (fun q hq => h q (by omega)), h t (by omega)]
/-- Which product comes at which step; how many there are; how early the number is done. -/
def trO (kd n p t : Nat) : Nat := if kd = 2 then n - 1 - t else if kd = 3 then p + 1 + t else t
def trC (kd n p : Nat) : Nat := if kd = 1 ∨ kd = 4 then p else n - 1 - p
/-- The last step: a division, in the kinds 2 and 4. -/
def trD (kd : Nat) (d e : Nat) : Nat := if kd = 2 ∨ kd = 4 then fbin .quo e d else e
/-- What each number is at each step (E), and in the end (F). -/
structure TrS (kd n : Nat) (a : Nat → Nat → Nat) (x : Nat → Nat) (E : Nat → Nat → Nat) (F : Nat → Nat) : Prop where
  zero : ∀ p, p < n → E p 0 = x p
  step : ∀ p, p < n → ∀ t, t < trC kd n p → E p (t + 1) = fbin .sub (E p t) (fbin .mul (a p (trO kd n p t)) (F (trO kd n p t)))
  last : ∀ p, p < n → F p = trD kd (a p p) (E p (trC kd n p))
theorem trO_early {kd n p t : Nat} (hk : kd = 1 ∨ kd = 2 ∨ kd = 3 ∨ kd = 4) (hp : p < n) (ht : t < trC kd n p) : trO kd n p t < n ∧ trC kd n (trO kd n p t) < trC kd n p := by
  unfold trO trC at *
  rcases hk with rfl | rfl | rfl | rfl <;> simp at * <;> omega
def trG (kd n : Nat) (a : Nat → Nat → Nat) (x : Nat → Nat) (F : Nat → Nat) (p : Nat) : Nat := trD kd (a p p) (trE (a p) (x p) (trO kd n p) F (trC kd n p))
def trI (kd n : Nat) (a : Nat → Nat → Nat) (x : Nat → Nat) : Nat → Nat → Nat
  | 0 => fun _ => 0
  | m + 1 => fun p => trG kd n a x (trI kd n a x m) p
theorem trI_eq {kd n : Nat} {a : Nat → Nat → Nat} {x : Nat → Nat} (hk : kd = 1 ∨ kd = 2 ∨ kd = 3 ∨ kd = 4) : ∀ r p m m', trC kd n p ≤ r → p < n → trC kd n p < m → trC kd n p < m' → trI kd n a x m p = trI kd n a x m' p := by
  intro r
  induction r with
  | zero =>
    intro p m m' hr hp hm hm'
    obtain ⟨m, rfl⟩ : ∃ q, m = q + 1 := ⟨m - 1, by omega⟩
    obtain ⟨m', rfl⟩ : ∃ q, m' = q + 1 := ⟨m' - 1, by omega⟩
    show trG kd n a x _ p = trG kd n a x _ p
    unfold trG
    rw [trE_congr (F' := trI kd n a x m') (fun q hq => by omega)]
  | succ r ih =>
    intro p m m' hr hp hm hm'
    obtain ⟨m, rfl⟩ : ∃ q, m = q + 1 := ⟨m - 1, by omega⟩
    obtain ⟨m', rfl⟩ : ∃ q, m' = q + 1 := ⟨m' - 1, by omega⟩
    show trG kd n a x _ p = trG kd n a x _ p
    unfold trG
    rw [trE_congr (F' := trI kd n a x m') (fun q hq => by
      obtain ⟨h1, h2⟩ := trO_early hk hp hq
      exact ih _ _ _ (by omega) h1 (by omega) (by omega))]
/-- There is such a solution. -/
theorem trS_exists (kd n : Nat) (a : Nat → Nat → Nat) (x : Nat → Nat) (hk : kd = 1 ∨ kd = 2 ∨ kd = 3 ∨ kd = 4) : ∃ E F, TrS kd n a x E F := by
  have hc : ∀ p, p < n → trC kd n p < n := fun p hp => by unfold trC; split <;> omega
  refine ⟨fun p t => trE (a p) (x p) (trO kd n p) (trI kd n a x n) t, trI kd n a x n, ⟨fun p _ => rfl, fun p _ t _ => rfl, fun p hp => ?_⟩⟩
  obtain ⟨m, hm⟩ : ∃ q, n = q + 1 := ⟨n - 1, by omega⟩
  have h1 : trI kd n a x n p = trI kd n a x (m + 1) p := by rw [← hm]
  rw [h1]
  show trG kd n a x _ p = _
  unfold trG
  rw [trE_congr (F' := trI kd n a x n) (fun q hq => by
    obtain ⟨h2, h3⟩ := trO_early hk hp hq
    have := hc p hp
    exact trI_eq hk _ _ _ _ (Nat.le_refl _) h2 (by omega) (by omega))]
/-- A list whose numbers at a vector's places are these, else as it was. -/
def TrL (l : List Nat) (o i K : Nat) (Z : Nat → Nat) (y : List Nat) : Prop :=
  y.length = l.length ∧ (∀ p, p < K → Is (y.getD (o + p * i) 0) (Z p)) ∧ ∀ x, (∀ p, p < K → x ≠ o + p * i) → y.getD x 0 = l.getD x 0
theorem TrL.congr {l : List Nat} {o i K : Nat} {Z Z' : Nat → Nat} {y : List Nat} (h : TrL l o i K Z y) (e : ∀ p, p < K → Z p = Z' p) : TrL l o i K Z' y := ⟨h.1, fun p hp => by rw [← e p hp]; exact h.2.1 p hp, h.2.2⟩
theorem TrL.set_ {l : List Nat} {o i K : Nat} {Z : Nat → Nat} {y : List Nat} {q r z : Nat} (h : TrL l o i K Z y) (hi : 1 ≤ i) (hq : q < K) (hP : o + q * i < l.length) (hr : Is r z) : TrL l o i K (fun p => if p = q then z else Z p) (y.set (o + q * i) r) := by
  refine ⟨by rw [List.length_set]; exact h.1, fun p hp => ?_, fun x hx => ?_⟩
  · show Is _ (if p = q then z else Z p)
    by_cases e : p = q
    · rw [if_pos e, e, getD_set_self (by rw [h.1]; exact hP)]
      exact hr
    · rw [if_neg e, getD_set_ne _ (fun e2 => e (by
        have : q * i = p * i := by omega
        exact (Nat.eq_of_mul_eq_mul_right (by omega) this).symm))]
      exact h.2.1 p hp
  · rw [getD_set_ne _ (fun e => hx q hq e.symm)]
    exact h.2.2 x hx
theorem TrL.refl (l : List Nat) (o i K : Nat) (hl : Wds l) (h : ∀ p, p < K → o + p * i < l.length) : TrL l o i K (fun p => l.getD (o + p * i) 0) l :=
  ⟨rfl, fun p hp => Is.refl (by rw [getD_of_lt (h p hp)]; exact hl.at_ _ (h p hp)), fun _ _ => rfl⟩

/-! ### Steps, kind by kind. -/
section
variable {kd n : Nat} {a : Nat → Nat → Nat} {x : Nat → Nat} {E : Nat → Nat → Nat} {F : Nat → Nat}
/-- Kind 1, column by column: j whole columns, of the next one the numbers below i. -/
def trZ1 (E : Nat → Nat → Nat) (j i p : Nat) : Nat := if p < i then E p (min p (j + 1)) else E p (min p j)
theorem trZ1_zero (E : Nat → Nat → Nat) (j p : Nat) : trZ1 E j (j + 1) p = E p (min p j) := by
  unfold trZ1
  by_cases h : p < j + 1
  · rw [if_pos h, show min p (j + 1) = min p j from by omega]
  · rw [if_neg h]
theorem trZ1_done (E : Nat → Nat → Nat) {j n p : Nat} (hp : p < n) : trZ1 E j n p = E p (min p (j + 1)) := by unfold trZ1; rw [if_pos hp]
theorem trZ1_step (h : TrS 1 n a x E F) {j i : Nat} (hj : j < i) (hi : i < n) (p : Nat) (hp : p < n) : (if p = i then fbin .sub (trZ1 E j i i) (fbin .mul (a i j) (trZ1 E j i j)) else trZ1 E j i p) = trZ1 E j (i + 1) p := by
  have e1 : trZ1 E j i j = F j := by
    unfold trZ1
    rw [if_pos hj, h.last j (by omega)]
    show E j (min j (j + 1)) = trD 1 _ (E j (trC 1 n j))
    rw [show min j (j + 1) = j from by omega]
    rfl
  have e2 : trZ1 E j i i = E i j := by unfold trZ1; rw [if_neg (by omega), show min i j = j from by omega]
  rw [e1, e2]
  by_cases e : p = i
  · subst e
    rw [if_pos rfl]
    have := h.step p hp j (by show j < (if (1 = 1 ∨ 1 = 4) then p else n - 1 - p); simpa using hj)
    have e3 : trO 1 n p j = j := rfl
    rw [e3] at this
    rw [← this]
    unfold trZ1
    rw [if_pos (by omega), show min p (j + 1) = j + 1 from by omega]
  · rw [if_neg e]
    unfold trZ1
    by_cases h1 : p < i
    · rw [if_pos h1, if_pos (by omega)]
    · rw [if_neg h1, if_neg (by omega)]
theorem trZ1_end (h : TrS 1 n a x E F) {p : Nat} (hp : p < n) : E p (min p n) = F p := by
  rw [h.last p hp, show min p n = p from by omega]; rfl
/-- Kind 2, column by column from the last: those from m on are done; of column m the numbers below i. -/
def trZ2 (n : Nat) (E : Nat → Nat → Nat) (F : Nat → Nat) (m i p : Nat) : Nat := if m ≤ p then F p else if p < i then E p (n - m) else E p (n - m - 1)
/-- Before column m - 1 is begun. -/
def trY2 (n : Nat) (E : Nat → Nat → Nat) (F : Nat → Nat) (m p : Nat) : Nat := if m ≤ p then F p else E p (n - m)
theorem trY2_zero (h : TrS 2 n a x E F) {p : Nat} (hp : p < n) : trY2 n E F n p = x p := by
  unfold trY2
  rw [if_neg (by omega), Nat.sub_self, h.zero p hp]
theorem trY2_end (p : Nat) : trY2 n E F 0 p = F p := by unfold trY2; rw [if_pos (Nat.zero_le _)]
theorem trY2_div (h : TrS 2 n a x E F) {m : Nat} (hm : m < n) (p : Nat) (hp : p < n) : (if p = m then fbin .quo (trY2 n E F (m + 1) m) (a m m) else trY2 n E F (m + 1) p) = trZ2 n E F m 0 p := by
  by_cases e : p = m
  · subst e
    rw [if_pos rfl]
    unfold trY2 trZ2
    rw [if_neg (by omega), if_pos (Nat.le_refl _), h.last p hp]
    show _ = fbin .quo (E p (n - 1 - p)) _
    rw [show n - (p + 1) = n - 1 - p from by omega]
  · rw [if_neg e]
    unfold trY2 trZ2
    by_cases h1 : m ≤ p
    · rw [if_pos h1, if_pos (by omega)]
    · rw [if_neg h1, if_neg (by omega), if_neg (by omega), show n - (m + 1) = n - m - 1 from by omega]
theorem trZ2_done {m p : Nat} : trZ2 n E F m m p = trY2 n E F m p := by
  unfold trZ2 trY2
  by_cases h1 : m ≤ p
  · rw [if_pos h1, if_pos h1]
  · rw [if_neg h1, if_neg h1, if_pos (by omega)]
theorem trZ2_step (h : TrS 2 n a x E F) {m i : Nat} (hi : i < m) (hm : m < n) (p : Nat) (hp : p < n) : (if p = i then fbin .sub (trZ2 n E F m i i) (fbin .mul (a i m) (trZ2 n E F m i m)) else trZ2 n E F m i p) = trZ2 n E F m (i + 1) p := by
  have e1 : trZ2 n E F m i m = F m := by unfold trZ2; rw [if_pos (Nat.le_refl _)]
  have e2 : trZ2 n E F m i i = E i (n - m - 1) := by unfold trZ2; rw [if_neg (by omega), if_neg (by omega)]
  rw [e1, e2]
  by_cases e : p = i
  · subst e
    rw [if_pos rfl]
    have := h.step p hp (n - m - 1) (by show n - m - 1 < n - 1 - p; omega)
    have e3 : trO 2 n p (n - m - 1) = m := by show n - 1 - (n - m - 1) = m; omega
    rw [e3] at this
    rw [← this]
    unfold trZ2
    rw [if_neg (by omega), if_pos (by omega), show n - m - 1 + 1 = n - m from by omega]
  · rw [if_neg e]
    unfold trZ2
    by_cases h1 : m ≤ p
    · rw [if_pos h1, if_pos h1]
    · rw [if_neg h1, if_neg h1]
      by_cases h2 : p < i
      · rw [if_pos h2, if_pos (by omega)]
      · rw [if_neg h2, if_neg (by omega)]
/-- Row by row: row i's number after t steps; those of which D holds are done. -/
def trR (E : Nat → Nat → Nat) (F : Nat → Nat) (D : Nat → Bool) (i t p : Nat) : Nat := if D p then F p else if p = i then E p t else E p 0
theorem trR_zero (E : Nat → Nat → Nat) (F : Nat → Nat) (D : Nat → Bool) (i p : Nat) : trR E F D i 0 p = if D p then F p else E p 0 := by
  unfold trR
  by_cases h : D p
  · rw [if_pos h, if_pos h]
  · rw [if_neg h, if_neg h]
    split <;> rfl
theorem trR_step {kd : Nat} (h : TrS kd n a x E F) {D : Nat → Bool} {i t k : Nat} (hi : i < n) (ht : t < trC kd n i) (hk : trO kd n i t = k) (hDi : D i = false) (hDk : D k = true) (p : Nat) (hp : p < n) :
    (if p = i then fbin .sub (trR E F D i t i) (fbin .mul (a i k) (trR E F D i t k)) else trR E F D i t p) = trR E F D i (t + 1) p := by
  have e1 : trR E F D i t k = F k := by unfold trR; rw [hDk]; rfl
  have e2 : trR E F D i t i = E i t := by unfold trR; rw [hDi]; simp
  rw [e1, e2]
  by_cases e : p = i
  · subst e
    rw [if_pos rfl]
    have := h.step p hp t ht
    rw [hk] at this
    rw [← this]
    unfold trR
    rw [hDi]
    simp
  · rw [if_neg e]
    unfold trR
    simp [e]
/-- Row i is done. -/
theorem trR_done {kd : Nat} (h : TrS kd n a x E F) {D D' : Nat → Bool} {i : Nat} (hi : i < n) (hDi : D i = false) (hD : ∀ p, p < n → D' p = (D p || decide (p = i))) (p : Nat) (hp : p < n) :
    (if p = i then trD kd (a i i) (trR E F D i (trC kd n i) i) else trR E F D i (trC kd n i) p) = if D' p then F p else E p 0 := by
  have e2 : trR E F D i (trC kd n i) i = E i (trC kd n i) := by unfold trR; rw [hDi]; simp
  rw [e2, hD p hp]
  by_cases e : p = i
  · subst e
    rw [if_pos rfl, ← h.last p hp]
    simp
  · rw [if_neg e]
    unfold trR
    simp [e]
end
end Go.Proofs.Ytcdhpoikppfjkaa
