/-
How large a number is, and how fine: what is made of numbers lies in few digits. Conditions: none.
-/
import Derived.Test.YtelpdbkkefpjhaaZSRdO
import Derived.Test.YtelpdbkkefpjhaaWSv
import Derived.Test.YtelpdbkkefpjhaaZSEqH
import Derived.Test.YtelpdbkkefpjhaaWSq
import Derived.Test.YtelpdbkkefpjhaaWSh
import Derived.BigQuiet
import Derived.Test.YtelpdbkkefpjhaaWSj
import Derived.Test.YtelpdbkkefpjhaaZSGrE
set_option linter.unusedVariables false
namespace Go.Proofs.Ytelpdbkkefpjhaa
open Go.RowKit

/-- Below 2^k, and a multiple of 2^-k. -/
def Sz (k : Nat) (d : Dyadic) : Prop := ∃ m : Int, d = dy m (-(k : Int)) ∧ m.natAbs < 2 ^ (2 * k)
theorem Sz.fit {k : Nat} {d : Dyadic} (h : Sz k d) (hk : k ≤ 134217720) : Fitd d := by
  obtain ⟨m, rfl, hm⟩ := h
  exact fitd_of hm (by omega) (by omega)
theorem Sz.mono {j k : Nat} {d : Dyadic} (h : Sz j d) (hk : j ≤ k) : Sz k d := by
  obtain ⟨m, rfl, hm⟩ := h
  refine ⟨m * 2 ^ (k - j), by rw [dy_pow]; congr 1; omega, ?_⟩
  have e : ((2 : Int) ^ (k - j)).natAbs = 2 ^ (k - j) := by rw [Int.natAbs_pow]; rfl
  rw [Int.natAbs_mul, e]
  have h1 : m.natAbs * 2 ^ (k - j) < 2 ^ (2 * j) * 2 ^ (k - j) := Nat.mul_lt_mul_of_pos_right hm (Nat.two_pow_pos _)
  rw [← Nat.pow_add] at h1
  exact Nat.lt_of_lt_of_le h1 (Nat.pow_le_pow_right (by omega) (by omega))
theorem Sz.add_ {k : Nat} {a b : Dyadic} (h : Sz k a) (h' : Sz k b) : Sz (k + 1) (a + b) := by
  obtain ⟨m, rfl, hm⟩ := h
  obtain ⟨n, rfl, hn⟩ := h'
  refine ⟨(m + n) * 2 ^ 1, by rw [dy_add, dy_pow]; congr 1; omega, ?_⟩
  rw [show 2 * (k + 1) = 2 * k + 2 by omega, Nat.pow_add]
  generalize 2 ^ (2 * k) = P at *
  omega
theorem Sz.add {j k n : Nat} {a b : Dyadic} (h : Sz j a) (h' : Sz k b) (hj : j < n) (hk : k < n) : Sz n (a + b) := by
  obtain ⟨n', rfl⟩ : ∃ n', n = n' + 1 := ⟨n - 1, by omega⟩
  exact (h.mono (by omega)).add_ (h'.mono (by omega))
theorem Sz.neg {k : Nat} {a : Dyadic} (h : Sz k a) : Sz k (-a) := by
  obtain ⟨m, rfl, hm⟩ := h
  exact ⟨-m, by rw [dy_neg], by omega⟩
theorem Sz.sub {j k n : Nat} {a b : Dyadic} (h : Sz j a) (h' : Sz k b) (hj : j < n) (hk : k < n) : Sz n (a - b) := Sz.add h h'.neg hj hk
theorem Sz.mul {j k n : Nat} {a b : Dyadic} (h : Sz j a) (h' : Sz k b) (hn : j + k ≤ n) : Sz n (a * b) := by
  refine Sz.mono (j := j + k) ?_ hn
  obtain ⟨m, rfl, hm⟩ := h
  obtain ⟨q, rfl, hq⟩ := h'
  refine ⟨m * q, by rw [dy_mul]; congr 1; omega, ?_⟩
  rw [Int.natAbs_mul, show 2 * (j + k) = 2 * j + 2 * k by omega, Nat.pow_add]
  exact Nat.mul_lt_mul'' hm hq
theorem Sz.int {z : Int} {k : Nat} (h : z.natAbs < 2 ^ k) : Sz k (dy z 0) := by
  refine ⟨z * 2 ^ k, by rw [dy_pow]; congr 1; omega, ?_⟩
  have e : ((2 : Int) ^ k).natAbs = 2 ^ k := by rw [Int.natAbs_pow]; rfl
  rw [Int.natAbs_mul, e, show 2 * k = k + k by omega, Nat.pow_add]
  exact Nat.mul_lt_mul_of_pos_right h (Nat.two_pow_pos _)
theorem Sz.pow (s : Int) : Sz (s.natAbs + 1) (dy 1 s) := by
  obtain ⟨t, ht⟩ : ∃ t : Nat, (t : Int) = s + ((s.natAbs + 1 : Nat) : Int) := ⟨(s + ((s.natAbs + 1 : Nat) : Int)).toNat, by omega⟩
  refine ⟨1 * 2 ^ t, by rw [dy_pow]; congr 1; omega, ?_⟩
  have e : ((2 : Int) ^ t).natAbs = 2 ^ t := by rw [Int.natAbs_pow]; rfl
  rw [Int.natAbs_mul, e, show (1 : Int).natAbs = 1 from rfl, Nat.one_mul]
  exact Nat.pow_lt_pow_right (by omega) (by omega)
theorem Sz.shift {j n : Nat} {a : Dyadic} (h : Sz j a) (s : Int) (hn : j + s.natAbs + 1 ≤ n) : Sz n (a * dy 1 s) := h.mul (Sz.pow s) (by omega)
theorem Sz.float {b : Nat} (h : Fl.rung b < Fl.INF) : Sz 1074 (fdy b) := by
  obtain ⟨K, hK⟩ : ∃ K, K = 2098 := ⟨_, rfl⟩
  obtain ⟨J, hJ⟩ : ∃ J, J = 1074 := ⟨_, rfl⟩
  rw [← hJ]
  refine ⟨Fl.val b, by unfold fdy; congr 1; omega, ?_⟩
  exact Nat.lt_of_lt_of_le (val_lt_big K hK h) (Nat.pow_le_pow_right (by omega) (by omega))
theorem Sz.zero (k : Nat) : Sz k 0 := ⟨0, by rw [dy_zero], Nat.two_pow_pos _⟩
/-- A box that a pointer points to, made behind lo. -/
def NewB (W : World) (v : Value) (lo : Nat) : Prop := ∃ (g : Nat) (x0 x1 x2 : Value), v = .pointer (some ⟨g, 0, none⟩) ∧ Blk W g 69 #[x0, x1, x2] ∧ lo ≤ g
theorem NewB.below {W W' : World} {v : Value} {lo : Nat} (h : NewB W v lo) (hb : Below W.heap.size W W') : NewB W' v lo := by
  obtain ⟨g, x0, x1, x2, h1, h2, h3⟩ := h
  exact ⟨g, x0, x1, x2, h1, h2.next hb, h3⟩
/-- A pointer to a box that holds the number. -/
def BxP (W : World) (v : Value) (lo : Nat) (d : Dyadic) : Prop := ∃ g : Nat, v = .pointer (some ⟨g, 0, none⟩) ∧ Bx W g d ∧ lo ≤ g
theorem BxP.below {W W' : World} {v : Value} {lo : Nat} {d : Dyadic} (h : BxP W v lo d) (hb : Below W.heap.size W W') : BxP W' v lo d := by
  obtain ⟨g, h1, h2, h3⟩ := h
  exact ⟨g, h1, h2.below hb, h3⟩
end Go.Proofs.Ytelpdbkkefpjhaa
/-
Equil: whether scaling is exact: pure. Conditions: as each says.
-/
set_option linter.unusedVariables false
set_option linter.unusedSimpArgs false
set_option linter.unnecessarySimpa false
namespace Go.Proofs.Ytelpdbkkefpjhaa
open Go.RowKit

theorem val_zero {x : Nat} (h : Fl.rung x = 0) : Fl.val x = 0 := by unfold Fl.val; rw [h, Fl.mag_zero]; simp
theorem zero_val {x : Nat} (h : Fl.val x = 0) : Fl.rung x = 0 := by
  have h2 : Fl.mag (Fl.rung x) = Fl.mag 0 := by
    rw [Fl.mag_zero]
    unfold Fl.val at h
    split at h <;> omega
  exact Fl.mag_inj h2
theorem scale_ne {x : Nat} {k : Int} (h0 : Fl.rung x ≠ 0) (h1 : Fl.rung x < Fl.INF) : Fl.scale x k = Fl.wd (Fl.sg x) (Fl.scl (Fl.mag (Fl.rung x)) k) := by unfold Fl.scale; rw [if_neg (by omega)]
theorem scale_zero {x : Nat} {k : Int} (h0 : Fl.rung x = 0) : Fl.scale x k = x := by unfold Fl.scale; rw [if_pos (.inl h0)]
theorem val_scale_up {x : Nat} (k : Nat) (h1 : Fl.rung x < Fl.INF) (h2 : Fl.rung (Fl.scale x k) < Fl.INF) : Fl.val (Fl.scale x k) = Fl.val x * 2 ^ k := by
  by_cases h0 : Fl.rung x = 0
  · rw [scale_zero h0, val_zero h0, Int.zero_mul]
  · rw [scale_ne h0 h1] at h2 ⊢
    have hle := Fl.scl_le (Fl.mag (Fl.rung x)) k
    have hI := Fl.INF_val
    rw [Fl.rung_wd _ (by omega)] at h2
    rw [Fl.val_wd _ (by omega)]
    have hs : Fl.scl (Fl.mag (Fl.rung x)) k = Fl.scl (Fl.pm x) ((Fl.pe x + k : Nat) : Int) := by rw [Fl.scale_parts]; simp
    have hm : Fl.mag (Fl.scl (Fl.mag (Fl.rung x)) k) = Fl.mag (Fl.rung x) * 2 ^ k := by
      rw [hs] at h2 ⊢
      rw [Fl.scl_mag (Fl.pm_lt x) h2, Fl.mag_parts x, Nat.pow_add, Nat.mul_assoc]
    unfold Fl.val
    rw [hm]
    cases Fl.sg x <;> simp [Int.neg_mul]
theorem sameB_fin {a x : Nat} (h : Fl.rung x < Fl.INF) (hs : sameB a x = true) : a = x := by
  unfold sameB at hs
  have hn : Fl.nan x = false := by unfold Fl.nan; exact decide_eq_false (by omega)
  rw [hn] at hs
  simpa using hs
theorem scl_pow (M n : Nat) : Fl.scl M (n : Int) = Fl.scl (M * 2 ^ n) 0 := by
  unfold Fl.scl
  rw [if_pos (by omega), if_pos (by omega)]
  simp
/-- Scaled down, and taken back: just what it was, if it was what it was, exactly. -/
theorem back_down {x : Nat} (hx : x < 18446744073709551616) (n : Nat) (h1 : Fl.rung x < Fl.INF) (h2 : Fl.rung (Fl.scale x (-(n : Int))) < Fl.INF) :
    Fl.val (Fl.scale x (-(n : Int))) * 2 ^ n = Fl.val x ↔ sameB (Fl.scale (Fl.scale x (-(n : Int))) n) x = true := by
  obtain ⟨s, hs⟩ : ∃ s, Fl.scale x (-(n : Int)) = s := ⟨_, rfl⟩
  rw [hs] at h2 ⊢
  by_cases hx0 : Fl.rung x = 0
  · rw [scale_zero hx0] at hs
    subst hs
    rw [val_zero hx0, scale_zero hx0, Int.zero_mul]
    simp [sameB_refl]
  · have hsx := scale_ne (k := -(n : Int)) hx0 h1
    rw [hs] at hsx
    have hle := Fl.scl_le (Fl.mag (Fl.rung x)) (-(n : Int))
    have hI := Fl.INF_val
    have hsg : Fl.sg s = Fl.sg x := by rw [hsx, Fl.sg_wd _ (by omega)]
    constructor
    · intro E
      by_cases hs0 : Fl.rung s = 0
      · rw [val_zero hs0, Int.zero_mul] at E
        exact absurd (zero_val E.symm) hx0
      · have hmg : Fl.mag (Fl.rung s) * 2 ^ n = Fl.mag (Fl.rung x) := by
          unfold Fl.val at E
          rw [hsg] at E
          have e2 : ((Fl.mag (Fl.rung s) * 2 ^ n : Nat) : Int) = (Fl.mag (Fl.rung x) : Int) := by
            rw [Int.natCast_mul, Int.natCast_pow]
            cases h : Fl.sg x <;> rw [h] at E
            · simpa using E
            · simp only [if_true, Int.neg_mul] at E
              have := Int.neg_inj.1 E
              simpa using this
          exact Int.ofNat_inj.1 e2
        have : Fl.scale s n = x := by
          rw [scale_ne hs0 h2, hsg, scl_pow, hmg, Fl.scl_self h1, Fl.wd_parts hx]
        rw [this]
        exact sameB_refl x
    · intro E
      have hE := sameB_fin h1 E
      have h3 := val_scale_up n h2 (by rw [hE]; exact h1)
      rw [← h3, hE]
theorem exact_iff {x : Nat} (hx : x < 18446744073709551616) (k : Int) (h1 : Fl.rung x < Fl.INF) (h2 : Fl.rung (Fl.scale x k) < Fl.INF) :
    ∃ m e, fdy (Fl.scale x k) * dy 1 (-k) - fdy x = dy m e ∧ (m = 0 ↔ sameB (Fl.scale (Fl.scale x k) (-k)) x = true) := by
  unfold fdy
  by_cases hk : 0 ≤ k
  · obtain ⟨n, rfl⟩ : ∃ n : Nat, k = n := ⟨k.toNat, by omega⟩
    have hv := val_scale_up n h1 h2
    refine ⟨0, -1074 + -(n : Int), ?_, ?_⟩
    · rw [dy_one, hv]
      have e : dy (Fl.val x) (-1074) = dy (Fl.val x * 2 ^ n) (-1074 + -(n : Int)) := by rw [dy_pow]; congr 1; omega
      rw [e, dy_sub, Int.sub_self]
    · rw [Fl.scale_back hx n h1 h2]
      simp [sameB_refl]
  · obtain ⟨n, hn⟩ : ∃ n : Nat, k = -(n : Int) := ⟨(-k).toNat, by omega⟩
    subst hn
    refine ⟨Fl.val (Fl.scale x (-(n : Int))) * 2 ^ n - Fl.val x, -1074, ?_, ?_⟩
    · rw [dy_one, Int.neg_neg, ← dy_pow, dy_sub]
    · rw [Int.neg_neg, ← back_down hx n h1 h2]
      omega
theorem bndI_small {k : Int} (h : -1073741824 ≤ k ∧ k ≤ 1073741824) : bndI k = k := by unfold bndI; rw [if_neg (by omega), if_neg (by omega)]
theorem shfE_small {r c : Int} (h1 : -10000 ≤ r ∧ r ≤ 10000) (h2 : -10000 ≤ c ∧ c ≤ 10000) : shfE r c = r + c := by
  unfold shfE
  rw [bndI_small (k := r) (by omega), bndI_small (k := c) (by omega), bndI_small (by omega)]

/-- A test of each place of a table. -/
def gridB (R C : Nat) (f : Nat → Nat → Bool) : Bool := (List.range R).all fun i => (List.range C).all fun j => f i j
theorem gridB_iff (R C : Nat) (f : Nat → Nat → Bool) : gridB R C f = true ↔ ∀ i, i < R → ∀ j, j < C → f i j = true := by
  unfold gridB
  simp [List.all_eq_true]
theorem gridB_false {R C : Nat} {f : Nat → Nat → Bool} {i j : Nat} (hi : i < R) (hj : j < C) (h : f i j = false) : gridB R C f = false := by
  cases hg : gridB R C f
  · rfl
  · have := (gridB_iff R C f).1 hg i hi j hj
    rw [h] at this; cases this
theorem gridB_congr {R C : Nat} {f g : Nat → Nat → Bool} (h : ∀ i, i < R → ∀ j, j < C → f i j = g i j) : gridB R C f = gridB R C g := by
  rw [Bool.eq_iff_iff, gridB_iff, gridB_iff]
  exact ⟨fun hf i hi j hj => by rw [← h i hi j hj]; exact hf i hi j hj, fun hg i hi j hj => by rw [h i hi j hj]; exact hg i hi j hj⟩
theorem all_grid {T : List Nat} {R C N : Nat} (hl : T.length = N) (hN : R * C = N) : T.all Fl.fin = gridB R C fun i j => Fl.fin (T.getD (i * C + j) 0) := by
  rw [Bool.eq_iff_iff, gridB_iff, List.all_eq_true]
  constructor
  · intro hf a ha b hb
    have hk : a * C + b < T.length := by rw [hl, ← hN]; exact tab_lt ha hb
    rw [getD_of_lt hk]
    exact hf _ (List.getElem_mem hk)
  · intro hf x hx
    obtain ⟨k, hk, rfl⟩ := List.mem_iff_getElem.1 hx
    have hk2 := hk
    rw [hl, ← hN] at hk2
    have hC : 0 < C := Nat.pos_of_ne_zero (by rintro rfl; simp at hk2)
    have hb : k / C < R := Nat.div_lt_of_lt_mul (by rw [Nat.mul_comm]; exact hk2)
    have he : k / C * C + k % C = k := by rw [Nat.mul_comm]; exact Nat.div_add_mod k C
    have h1 := hf _ hb _ (Nat.mod_lt k hC)
    rw [he, getD_of_lt hk] at h1
    exact h1
/-- A number scaled; is it what it was, taken back? -/
def sclX (zr zc : List Int) (X : Nat → Nat → Nat) (i j : Nat) : Nat := Fl.scale (X i j) (shfE (zr.getD i 0) (zc.getD j 0))
def okX (zr zc : List Int) (X : Nat → Nat → Nat) (i j : Nat) : Bool := sameB (Fl.scale (sclX zr zc X i j) (IntKind.i64.wrap (-(IntKind.i64.wrap (zr.getD i 0 + zc.getD j 0))))) (X i j)
/-- What Exact tells. -/
def exB (zr zc : List Int) (X : Nat → Nat → Nat) (R C : Nat) : Bool := gridB R C (fun i j => Fl.fin (X i j)) && (gridB R C (fun i j => Fl.fin (sclX zr zc X i j)) && gridB R C (okX zr zc X))
theorem exB_congr {zr zc : List Int} {X X' : Nat → Nat → Nat} {R C : Nat} (h : ∀ i, i < R → ∀ j, j < C → X i j = X' i j) : exB zr zc X R C = exB zr zc X' R C := by
  unfold exB
  rw [gridB_congr (fun i hi j hj => by rw [h i hi j hj] : ∀ i, i < R → ∀ j, j < C → Fl.fin (X i j) = Fl.fin (X' i j)), gridB_congr (fun i hi j hj => by unfold sclX; rw [h i hi j hj] : ∀ i, i < R → ∀ j, j < C → Fl.fin (sclX zr zc X i j) = Fl.fin (sclX zr zc X' i j)), gridB_congr (fun i hi j hj => by unfold okX sclX; rw [h i hi j hj] : ∀ i, i < R → ∀ j, j < C → okX zr zc X i j = okX zr zc X' i j)]
theorem SclS.fins {zr zc : List Int} {l : List Nat} {o R C L D N : Nat} {M : List Nat} (h : SclS zr zc l o R C L D N M) : finsB M 0 R C D = gridB R C (fun i j => Fl.fin (sclX zr zc (tX l o L) i j)) := by
  show gridB R C (fun a b => Fl.fin (M.getD (0 + a + b * D) 0)) = _
  exact gridB_congr (fun i hi j hj => by rw [Nat.zero_add, h.2 i hi j hj]; rfl)
theorem SclS.at_ {zr zc : List Int} {l : List Nat} {o R C L D N : Nat} {M : List Nat} (h : SclS zr zc l o R C L D N M) {i j : Nat} (hi : i < R) (hj : j < C) : M.getD (0 + i + j * D) 0 = sclX zr zc (tX l o L) i j := by rw [Nat.zero_add, h.2 i hi j hj]; rfl
theorem SclS.wds {zr zc : List Int} {l : List Nat} {o R C L D N : Nat} {M : List Nat} (h : SclS zr zc l o R C L D N M) (hW : Wds l) (hN : R * C = N) (hD : max 1 R = D) : Wds M := by
  intro b hb2
  obtain ⟨k, hk, rfl⟩ := List.mem_iff_getElem.1 hb2
  rw [← getD_of_lt hk]
  have hk2 : k < R * C := by rw [h.1, ← hN] at hk; exact hk
  have hR0 : 0 < R := by
    rcases Nat.eq_zero_or_pos R with e | e
    · subst e; simp at hk2
    · exact e
  have hD2 : D = R := by omega
  subst hD2
  have e2 : k = k % D + k / D * D := by rw [Nat.mul_comm, Nat.add_comm]; exact (Nat.div_add_mod k D).symm
  rw [e2, h.2 _ (Nat.mod_lt _ hR0) _ (Nat.div_lt_of_lt_mul hk2)]
  exact Fl.scale_lt (getD_wds hW _) _
end Go.Proofs.Ytelpdbkkefpjhaa
/-
Unpack: a panel's numbers put into a matrix. Conditions: the lists have fewer than 2^20 numbers.
-/
set_option linter.unusedVariables false
set_option linter.unusedSimpArgs false
set_option linter.unnecessarySimpa false
namespace Go.Proofs.Ytelpdbkkefpjhaa
open Go.RowKit
attribute [local go_sem ↓] Go.wp_at_zero Go.wp_at_succ

theorem run_eql_nilF (a : Addr) (n c : Nat) (w : World) : (binOp .eql 22 (.slice (some a) n c) (.slice none 0 0)).run Try.prog w = .ok (.bool false) w := by kernel_rfl
attribute [local go_sem ↓] run_eql_nilF
/-- The first q numbers of a panel of K columns have been put into the matrix. -/
def Pup (l : List Nat) (o R C L : Nat) (T : Nat → Nat → Nat) (K q : Nat) (l' : List Nat) : Prop :=
  l'.length = l.length ∧ (∀ a, a < R → ∀ b, b < C → l'.getD (o + a + b * L) 0 = if a * K + b < q then T a b else l.getD (o + a + b * L) 0) ∧ ∀ x, (∀ a, a < R → ∀ b, b < C → x ≠ o + a + b * L) → l'.getD x 0 = l.getD x 0
theorem Pup.zero (l : List Nat) (o R C L : Nat) (T : Nat → Nat → Nat) (K : Nat) : Pup l o R C L T K 0 l := ⟨rfl, fun a _ b _ => by rw [if_neg (by omega)], fun _ _ => rfl⟩
theorem Pup.done {l l' : List Nat} {o R C L : Nat} {T : Nat → Nat → Nat} {K P q : Nat} (h : Pup l o R C L T K q l') (hq : q = P * K) (hR : R ≤ P) (hC : C ≤ K) : Img l o R C L T l' :=
  ⟨h.1, fun a ha b hb => by rw [h.2.1 a ha b hb, if_pos (by have := tab_lt (r := P) (k := K) (i := a) (j := b) (by omega) (by omega); omega)], h.2.2⟩
theorem Pup.step {l l' : List Nat} {o R C L : Nat} {T : Nat → Nat → Nat} {K q a b x : Nat} (h : Pup l o R C L T K q l') (hRL : R ≤ L) (ha : a < R) (hb : b < C) (hC : C ≤ K) (hq : a * K + b = q) (hP : o + a + b * L < l.length) (hx : x = T a b) : Pup l o R C L T K (q + 1) (l'.set (o + a + b * L) x) := by
  subst hx
  refine ⟨by rw [List.length_set]; exact h.1, fun i hi j hj => ?_, fun x hx => ?_⟩
  · by_cases e : i = a ∧ j = b
    · obtain ⟨rfl, rfl⟩ := e
      rw [getD_set_self (by rw [h.1]; exact hP), if_pos (by omega)]
    · rw [getD_set_ne _ (fun e2 => e (by
        have := spots_inj (L := L) (a := a) (b := b) (a' := i) (b' := j) (by omega) (by omega) (by omega)
        exact ⟨this.1.symm, this.2.symm⟩)), h.2.1 i hi j hj]
      have hne : i * K + j ≠ q := fun e2 => e (tab_injg (C := K) (by omega) (by omega) (e2.trans hq.symm))
      by_cases e1 : i * K + j < q
      · rw [if_pos e1, if_pos (by omega)]
      · rw [if_neg e1, if_neg (by omega)]
  · rw [getD_set_ne _ (fun e => hx a ha b hb e.symm), h.2.2 x hx]
theorem Pup.skip {l l' : List Nat} {o R C L : Nat} {T : Nat → Nat → Nat} {K q a b : Nat} (h : Pup l o R C L T K q l') (hb : b < K) (hC : C ≤ K) (hq : a * K + b = q) (hn : ¬ (a < R ∧ b < C)) : Pup l o R C L T K (q + 1) l' := by
  refine ⟨h.1, fun i hi j hj => ?_, h.2.2⟩
  rw [h.2.1 i hi j hj]
  have hne : i * K + j ≠ q := fun e2 => hn (by obtain ⟨rfl, rfl⟩ := tab_injg (C := K) (by omega) hb (e2.trans hq.symm); exact ⟨hi, hj⟩)
  by_cases e1 : i * K + j < q
  · rw [if_pos e1, if_pos (by omega)]
  · rw [if_neg e1, if_neg (by omega)]
end Go.Proofs.Ytelpdbkkefpjhaa
