/-
PackRaw: what its walks want. Conditions: none.
-/
import Derived.Test.YtbjopdnfjjcpoaaZPlI
import Derived.Test.YtbjopdnfjjcpoaaZPlF
import Derived.Test.YtbjopdnfjjcpoaaVak
import Derived.Test.YtbjopdnfjjcpoaaZVwG
import Derived.Tactics
import Derived.Deep.CutBlock
set_option linter.unusedVariables false
set_option linter.unusedSimpArgs false
set_option linter.unnecessarySimpa false
namespace Go.Proofs.Ytbjopdnfjjcpoaa
open Go.RowKit
attribute [local go_sem ↓] Go.wp_at_zero Go.wp_at_succ

/-- The frame is as it was, but for these temporaries, and this holds. -/
def MetR (a0 : Act) (L : List Nat) (rel : (Nat → Value) → World → Prop) (a : Act) (w : World) : Prop := ∃ s, a = ⟨setAll a0.tmps s L, a0.defers⟩ ∧ rel s w
section
variable {P : Program} {Q : Exit → Act → World → Prop} {a : Act} {w : World} {x y z : Code}
/-- What the walk stops at: no such block stands in the program. -/
theorem stop_out {p : Prop} (h : Code.wp P (Code.block 99 Code.skip) (fun _ _ _ => p) a w) : p := by
  obtain ⟨_, _, _, h, _⟩ := h default [] []
  exact h
theorem stop_in {p : Prop} (h : p) : Code.wp P (Code.block 99 Code.skip) (fun _ _ _ => p) a w := wp_block (wp_skip h)
/-- Two statements, then what follows: once, by what holds between. -/
theorem cut_two (L : List Nat) (rel : (Nat → Value) → World → Prop)
    (first : Code.wp P (Code.block 99 Code.skip) (fun _ _ _ => (∀ K : Act → World → Prop, (∀ a' w, y.wp P (Exit.then (MetR a L rel) Q) a' w → K a' w) → x.wp P (Exit.then K (Exit.then (MetR a L rel) Q)) a w)) a w)
    (rest : Code.wp P (Code.block 99 Code.skip) (fun _ _ _ => (∀ s w', rel s w' → z.wp P Q ⟨setAll a.tmps s L, a.defers⟩ w')) a w) : (Code.seq x (Code.seq y z)).wp P Q a w := by
  refine wp_seq (wp_mono (stop_out first _ (fun _ _ h => h)) ?_)
  intro e a1 w h
  cases e with
  | normal =>
    refine wp_seq (wp_mono h ?_)
    intro e a2 w h
    cases e with
    | normal =>
      obtain ⟨s, rfl, hr⟩ := h
      exact stop_out rest s w hr
    | exit id => exact h
    | goto l => exact h
    | ret => exact h
    | panic ch => exact h
    | outgrown => exact h
  | exit id => exact h
  | goto l => exact h
  | ret => exact h
  | panic ch => exact h
  | outgrown => exact h
theorem cut_two7 {ops : Array Oper} {dr : Bool} (L : List Nat) (rel : (Nat → Value) → World → Prop)
    (first : Code.wp P (Code.block 99 Code.skip) (fun _ _ _ => (∀ K : Act → World → Prop, (∀ a' w, y.wp P (Exit.then (MetR a L rel) Q) a' w → K a' w) → (Code.region 7 ops dr).wp P (Exit.then K (Exit.then (MetR a L rel) Q)) a w)) a w)
    (rest : Code.wp P (Code.block 99 Code.skip) (fun _ _ _ => (∀ s w', rel s w' → z.wp P Q ⟨setAll a.tmps s L, a.defers⟩ w')) a w) : (Code.seq (Code.region 7 ops dr) (Code.seq y z)).wp P Q a w := cut_two L rel first rest
theorem cut_two14 {ops : Array Oper} {dr : Bool} (L : List Nat) (rel : (Nat → Value) → World → Prop)
    (first : Code.wp P (Code.block 99 Code.skip) (fun _ _ _ => (∀ K : Act → World → Prop, (∀ a' w, y.wp P (Exit.then (MetR a L rel) Q) a' w → K a' w) → (Code.region 14 ops dr).wp P (Exit.then K (Exit.then (MetR a L rel) Q)) a w)) a w)
    (rest : Code.wp P (Code.block 99 Code.skip) (fun _ _ _ => (∀ s w', rel s w' → z.wp P Q ⟨setAll a.tmps s L, a.defers⟩ w')) a w) : (Code.seq (Code.region 14 ops dr) (Code.seq y z)).wp P Q a w := cut_two L rel first rest
theorem cut_two19 {ops : Array Oper} {dr : Bool} (L : List Nat) (rel : (Nat → Value) → World → Prop)
    (first : Code.wp P (Code.block 99 Code.skip) (fun _ _ _ => (∀ K : Act → World → Prop, (∀ a' w, y.wp P (Exit.then (MetR a L rel) Q) a' w → K a' w) → (Code.region 19 ops dr).wp P (Exit.then K (Exit.then (MetR a L rel) Q)) a w)) a w)
    (rest : Code.wp P (Code.block 99 Code.skip) (fun _ _ _ => (∀ s w', rel s w' → z.wp P Q ⟨setAll a.tmps s L, a.defers⟩ w')) a w) : (Code.seq (Code.region 19 ops dr) (Code.seq y z)).wp P Q a w := cut_two L rel first rest
theorem metR_mk {a0 : Act} {L : List Nat} {rel : (Nat → Value) → World → Prop} {a : Act} (e : a = ⟨setAll a0.tmps (fun k => a.tmps.getD k undef) L, a0.defers⟩) (h : rel (fun k => a.tmps.getD k undef) w) : MetR a0 L rel a w := ⟨_, e, h⟩
end
/-- The number that At answers. -/
def pX (l : List Nat) (r k : Int) (n : Nat) (i j : Int) : Nat := if tpB r k n i j = true then l.getD (i * k + j).toNat 0 else 0
theorem tpB_no {r k i j : Int} {n : Nat} (h : ¬ (0 ≤ i ∧ 0 ≤ j ∧ i < r ∧ j < k ∧ prB n i j k = true)) : tpB r k n i j = false := by
  rw [Bool.eq_false_iff]
  intro h2
  unfold tpB at h2
  simp only [Bool.and_eq_true, decide_eq_true_eq] at h2
  exact h ⟨h2.1.1.1.1, h2.1.1.2, h2.1.1.1.2, h2.1.2, (prB_iff (by omega) h2.1.1.2 h2.1.1.1.1).2 h2.2⟩
theorem tpB_yes {r k i j : Int} {n : Nat} (h1 : 0 ≤ i) (h2 : 0 ≤ j) (h3 : i < r) (h4 : j < k) (h5 : prB n i j k = true) : tpB r k n i j = true := by
  unfold tpB
  simp only [Bool.and_eq_true, decide_eq_true_eq]
  exact ⟨⟨⟨⟨h1, h3⟩, h2⟩, h4⟩, (prB_iff (by omega) h2 h1).1 h5⟩
theorem q_facts {n : Nat} {j k : Int} (hn : n < 1048576) (hk : 1 ≤ k) (hj : 0 ≤ j) (h : j < (n : Int)) : ∃ Z : Int, ((n : Int) - 1 - j) / k = Z ∧ Int.tdiv ((n : Int) - 1 - j) k = Z ∧ IntKind.i64.wrap Z = Z ∧ (IntKind.i64.wrap ((n : Int) - 1) = (n : Int) - 1 ∧ wrap64 ((n : Int) - 1) = (n : Int) - 1) ∧ (IntKind.i64.wrap ((n : Int) - 1 - j) = (n : Int) - 1 - j ∧ wrap64 ((n : Int) - 1 - j) = (n : Int) - 1 - j) ∧ ((k == 0) = false ∧ ¬ k = 0) := by
  have b1 : 0 ≤ ((n : Int) - 1 - j) / k := Int.ediv_nonneg (by omega) (by omega)
  have b2 : ((n : Int) - 1 - j) / k ≤ (n : Int) - 1 - j := Int.ediv_le_self _ (by omega)
  have e5 : Int.tdiv ((n : Int) - 1 - j) k = ((n : Int) - 1 - j) / k := Int.tdiv_eq_ediv_of_nonneg (by omega)
  obtain ⟨Z, hZ⟩ : ∃ Z, ((n : Int) - 1 - j) / k = Z := ⟨_, rfl⟩
  rw [hZ] at b1 b2 e5
  exact ⟨Z, hZ, e5, wrapi (by omega) (by omega), ⟨wrapi (by omega) (by omega), wrap_id (by unfold I64; omega)⟩, ⟨wrapi (by omega) (by omega), wrap_id (by unfold I64; omega)⟩, by simp; omega, by omega⟩
/-- Unpack's error. -/
def unE (gb wb : Bool) (r k mr mk : Int) : Int := if gb = true ∧ wb = true then (if r < mr ∨ k < mk then 3 else 0) else 1
theorem exE_r : (FloatKind.f64.format.order 0 0 == some .eq) = true := by decide +kernel
set_option maxRecDepth 100000 in
set_option maxHeartbeats 2000000 in
theorem packRaw_great (r k : Int) (A : Option Addr) (n c : Nat) (i j : Int) (Am : Option Addr) (nm cm : Nat) (mo mr mk ml : Int) (w : World) (h : greatB nm mr mk = true ∨ 1000 < n) : Calls Try.prog 4 #[.int .i64 r, .int .i64 k, .slice A n c, .int .i64 i, .int .i64 j, mat Am nm cm mo mr mk ml] w fun e w' => e = .returned (.bool true) ∧ Below w.heap.size w w' := by
  have HGr := Lib.hid (fun W => great_any Am nm cm mo mr mk ml W)
  by_cases hg : greatB nm mr mk = true
  · rw [hg] at HGr
    clear h hg
    unfold mat at *
    go_enter Try.func4, Try.ntmps4
    have Hm0 := Lib.hid (Blk.new w 24 #[.slice Am nm cm, .int .i64 mo, .int .i64 mr, .int .i64 mk, .int .i64 ml])
    have HB0 := Lib.hid ((Below.refl w.heap.size w).alloc (Nat.le_refl _) (.cells #[.slice Am nm cm, .int .i64 mo, .int .i64 mr, .int .i64 mk, .int .i64 ml] 24))
    obtain ⟨m0, m1, m2, m3, m4⟩ := cells5 Hm0.out
    go_wp2_with fail
    refine (awake12_any _).mono ?_
    rintro e w1 ⟨rfl, hb⟩
    have Hm1 := Lib.hid (Hm0.out.nxt hb)
    have HB1 := Lib.hid (below_nx HB0.out hb)
    clear hb
    clear m0 m1 m2 m3 m4
    obtain ⟨m0, m1, m2, m3, m4⟩ := cells5 Hm1.out
    go_wp2_with fail
    refine (HGr.out _).mono ?_
    rintro e w2 ⟨rfl, hb⟩
    have Hm2 := Lib.hid (Hm1.out.nxt hb)
    have HB2 := Lib.hid (below_nx HB1.out hb)
    clear hb
    clear m0 m1 m2 m3 m4
    obtain ⟨m0, m1, m2, m3, m4⟩ := cells5 Hm2.out
    go_wp2_with fail
    refine (awake12_any _).mono ?_
    rintro e w3 ⟨rfl, hb⟩
    have Hm3 := Lib.hid (Hm2.out.nxt hb)
    have HB3 := Lib.hid (below_nx HB2.out hb)
    clear hb
    clear m0 m1 m2 m3 m4
    obtain ⟨m0, m1, m2, m3, m4⟩ := cells5 Hm3.out
    go_wp2_with fail
    go_ret
    exact ⟨rfl, HB3.out⟩
  · have hg2 : greatB nm mr mk = false := by simpa using hg
    have hn : (1000 : Int) < (n : Int) := by have := h.resolve_left hg; omega
    rw [hg2] at HGr
    clear h hg hg2
    unfold mat at *
    go_enter Try.func4, Try.ntmps4
    have Hm0 := Lib.hid (Blk.new w 24 #[.slice Am nm cm, .int .i64 mo, .int .i64 mr, .int .i64 mk, .int .i64 ml])
    have HB0 := Lib.hid ((Below.refl w.heap.size w).alloc (Nat.le_refl _) (.cells #[.slice Am nm cm, .int .i64 mo, .int .i64 mr, .int .i64 mk, .int .i64 ml] 24))
    obtain ⟨m0, m1, m2, m3, m4⟩ := cells5 Hm0.out
    go_wp2_with fail
    refine (awake12_any _).mono ?_
    rintro e w1 ⟨rfl, hb⟩
    have Hm1 := Lib.hid (Hm0.out.nxt hb)
    have HB1 := Lib.hid (below_nx HB0.out hb)
    clear hb
    clear m0 m1 m2 m3 m4
    obtain ⟨m0, m1, m2, m3, m4⟩ := cells5 Hm1.out
    go_wp2_with fail
    refine (HGr.out _).mono ?_
    rintro e w2 ⟨rfl, hb⟩
    have Hm2 := Lib.hid (Hm1.out.nxt hb)
    have HB2 := Lib.hid (below_nx HB1.out hb)
    clear hb
    clear m0 m1 m2 m3 m4
    obtain ⟨m0, m1, m2, m3, m4⟩ := cells5 Hm2.out
    go_wp2_with fail
    refine (awake12_any _).mono ?_
    rintro e w3 ⟨rfl, hb⟩
    have Hm3 := Lib.hid (Hm2.out.nxt hb)
    have HB3 := Lib.hid (below_nx HB2.out hb)
    clear hb
    clear m0 m1 m2 m3 m4
    obtain ⟨m0, m1, m2, m3, m4⟩ := cells5 Hm3.out
    go_wp2_with fail
    go_ret
    exact ⟨rfl, HB3.out⟩

end Go.Proofs.Ytbjopdnfjjcpoaa
