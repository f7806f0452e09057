/-
What the proof rests on: laws of floats, lists, memory and the walks of the functions. Conditions: as each says.
-/
import Derived.Test.YtjjneiidggcfdaaAxesCloseZc
import Derived.Below
import Derived.ChangeSame
import Derived.Laws.Cover2
import Derived.Test.YtjjneiidggcfdaaRows
import Derived.KernelRfl
import Derived.WalkKit
import Derived.Laws.Rows
import Derived.Deep.Draws
import Derived.Laws.OwnMore
import Derived.Lib.Hide
import Derived.Laws.FloatBits
import GoSem.Core.Float
import Derived.WalkLawsBesides
import Derived.Laws.BitsAllLaws
import Derived.WalkSpells
import Derived.LoopTactic
import Derived.Outline
import Derived.Laws.Externs
import Derived.Deep.QuietTactic
import Derived.BigQuiet
import Derived.RegionTactic
import Derived.Deep.Slices
import Derived.Deep.Fields
import Derived.Lib.BitFns
import Derived.Deep.RegionHeld3
import Derived.Deep.DrawnRows
import Derived.Deep.RegionWith
import Derived.Shelf.Spec.BitsCarry
import Derived.Deep.OwnRows
import Derived.Deep.DeepCutAuto
import Derived.IntWalk
import Derived.Shelf.Spec.TrailingZeros
import Derived.Lib.LaidTab
import Derived.Lib.ItoaNum
import Derived.Deep.CutBlock
import Derived.Laws.AppendOwn
import Derived.Orders
import Derived.RowKit3
import Derived.Maps.AppendAt
import Derived.Laws.FloatArith
import Derived.LaidEqlPtr
import Derived.BigRegion
import Ieee.Arith
import Derived.Shelf.Abstract
set_option linter.unusedVariables false
namespace Go.Proofs.Ytjjneiidggcfdaa
open Go.RowKit

/-- Of the blocks that were there those of G alone may have changed. -/
structure Chg (G : List Nat) (w w' : World) : Prop where
  os : w'.os = w.os
  tape : w'.tape = w.tape
  output : w'.output = w.output
  size : w.heap.size ≤ w'.heap.size
  block : ∀ k, k < w.heap.size → k ∉ G → w'.heap[k]? = w.heap[k]?
section
variable {G : List Nat} {w w' w'' : World} {b : Nat} {t : TypeId} {cs : Array Value}
theorem Chg.refl (G : List Nat) (w : World) : Chg G w w := ⟨rfl, rfl, rfl, Nat.le_refl _, fun _ _ _ => rfl⟩
theorem Chg.trans (h : Chg G w w') (k : Chg G w' w'') : Chg G w w'' :=
  ⟨k.os.trans h.os, k.tape.trans h.tape, k.output.trans h.output, Nat.le_trans h.size k.size, fun i hi hn => (k.block i (Nat.lt_of_lt_of_le hi h.size) hn).trans (h.block i hi hn)⟩
theorem Chg.of_below (h : Below w.heap.size w w') : Chg G w w' := ⟨h.os, h.tape, h.output, h.size, fun k hk _ => h.block k hk⟩
theorem Chg.nxt (h : Chg G w w') (hb : Below w'.heap.size w' w'') : Chg G w w'' := h.trans (.of_below hb)
theorem Chg.mono {G' : List Nat} (h : Chg G w w') (hg : ∀ g ∈ G, g ∈ G') : Chg G' w w' := ⟨h.os, h.tape, h.output, h.size, fun k hk hn => h.block k hk (fun e => hn (hg _ e))⟩
theorem Chg.drew (h : Chg G w w') : Chg G w w'.drew := ⟨h.os, h.tape, h.output, h.size, h.block⟩
theorem Chg.drewN (h : Chg G w w') (n : Nat) : Chg G w (w'.drewN n) := ⟨h.os, h.tape, h.output, h.size, h.block⟩
theorem Chg.alloc (h : Chg G w w') (o : Obj) : Chg G w (w'.alloc o) := h.nxt ((Below.refl _ _).alloc (Nat.le_refl _) o)
theorem Chg.set_in (h : Chg G w w') {p : Addr} (hp : p.block ∈ G) (u : Value) : Chg G w (w'.setCell p u) :=
  ⟨h.os, h.tape, h.output, by simpa [World.setCell] using h.size, fun k hk hn => (Below.heap_setCell w' _ u k (fun e => hn (by rw [e]; exact hp))).trans (h.block k hk hn)⟩
theorem Chg.below {B : Nat} {w0 : World} (h : Chg G w w') (hb : Below B w0 w) (hB : B ≤ w.heap.size) (hG : ∀ g ∈ G, B ≤ g) : Below B w0 w' :=
  hb.trans ⟨h.os, h.tape, h.output, h.size, fun k hk => h.block k (by omega) (fun e => by have := hG k e; omega)⟩
theorem Chg.blk (h : Chg G w w') (hb : b ∉ G) (hB : Blk w b t cs) : Blk w' b t cs := (h.block b hB.lt hb).trans hB
theorem Chg.own {l : List Nat} (h : Chg G w w') (hb : b ∉ G) (hB : Own w b l) : Own w' b l := by
  obtain ⟨cs, hB, ht⟩ := hB; exact ⟨cs, h.blk hb hB, ht⟩
theorem Chg.cell {o : Nat} {v : Value} (h : Chg G w w') (hb : b ∉ G) (hc : w.cell? ⟨b, o, none⟩ = some v) : w'.cell? ⟨b, o, none⟩ = some v :=
  (World.cell?_of_block (a := ⟨b, o, none⟩) (h.block b (block_lt hc) hb)).trans hc
theorem Chg.row {A : Option Addr} {xs : List Value} (h : Chg G w w') (hA : ∀ b o, A = some ⟨b, o, none⟩ → b ∉ G) (hr : Row w A xs) : Row w' A xs := by
  rcases hr with rfl | ⟨b, o, e, hc⟩
  · exact .inl rfl
  · exact .inr ⟨b, o, e, fun i v hi => h.cell (hA b o e) (hc i v hi)⟩
/-- The blocks of G are the call's own, or the caller's, and hold these lists. -/
def Has (w : World) (G : List Nat) (s : Nat → List Nat) : Prop := ∀ g ∈ G, Own w g (s g)
variable {s : Nat → List Nat}
theorem Has.own {g : Nat} (h : Has w G s) (hg : g ∈ G) : Own w g (s g) := h g hg
theorem Has.nxt (h : Has w G s) (hb : Below w.heap.size w w') : Has w' G s := fun g hg => (h g hg).nxt hb
theorem Has.lt {g : Nat} (h : Has w G s) (hg : g ∈ G) : g < w.heap.size := (h g hg).lt
theorem Has.set_ {g i : Nat} (h : Has w G s) (hg : g ∈ G) (v : Nat) (hi : i < (s g).length) : Has (w.setCell ⟨g, i, none⟩ (.float .f64 v)) G (upd s g ((s g).set i v)) := by
  intro k hk
  by_cases e : k = g
  · subst e
    rw [upd_self]
    exact (h k hk).set_ i v hi
  · rw [upd_ne e]
    exact (h k hk).other e _
theorem Has.other (h : Has w G s) {p : Addr} (hp : p.block ∉ G) (u : Value) : Has (w.setCell p u) G s := fun g hg => (h g hg).other (fun e => hp (by rw [← e]; exact hg)) u
theorem Has.drew (h : Has w G s) : Has w.drew G s := fun g hg => (h g hg).drew
theorem Has.alloc (h : Has w G s) (o : Obj) : Has (w.alloc o) G s := h.nxt ((Below.refl _ _).alloc (Nat.le_refl _) o)
theorem Has.mono {G' : List Nat} (h : Has w G s) (hg : ∀ g ∈ G', g ∈ G) : Has w G' s := fun g k => h g (hg g k)
theorem Has.get {g i : Nat} (h : Has w G s) (hg : g ∈ G) (hi : i < (s g).length) : w.cell? ⟨g, i, none⟩ = some (.float .f64 ((s g).getD i 0)) := by
  rw [(h g hg).get i hi, getD_of_lt hi]
theorem Has.row {g : Nat} (h : Has w G s) (hg : g ∈ G) : Row w (some ⟨g, 0, none⟩) (f64s (s g)) := (h g hg).row
theorem own_blk {g : Nat} {l : List Nat} (h : Blk w g 25 (f64s l).toArray) : Own w g l := ⟨_, h, List.take_of_length_le (by simp [f64s])⟩
theorem cells4w {v0 v1 v2 v3 : Value} (h : Blk w b t #[v0, v1, v2, v3]) : w.cell? ⟨b, 0, none⟩ = some v0 ∧ w.cell? ⟨b, 1, none⟩ = some v1 ∧ w.cell? ⟨b, 2, none⟩ = some v2 ∧ w.cell? ⟨b, 3, none⟩ = some v3 := ⟨h.cell 0, h.cell 1, h.cell 2, h.cell 3⟩
end
end Go.Proofs.Ytjjneiidggcfdaa
set_option linter.unusedVariables false
namespace Go.Proofs.Ytjjneiidggcfdaa
open Go.RowKit
attribute [local go_sem ↓] Go.wp_at_zero Go.wp_at_succ

theorem mplace_any (A : Option Addr) (n c : Nat) (off k inc i p : Int) (w : World) (hp : off + i * inc = p) (h1 : I64 (i * inc)) (h2 : I64 p) :
    Calls Try.prog 76 #[vec A n c off k inc, .int .i64 i] w fun e w' => e = .returned (.int .i64 p) ∧ Below w.heap.size w w' := by
  unfold I64 at h1 h2
  have w2 : IntKind.i64.wrap (i * inc) = i * inc := wrapi (by omega) (by omega)
  have w3 : IntKind.i64.wrap p = p := wrapi (by omega) (by omega)
  have u1 : wrap64 (i * inc) = i * inc := by unfold wrap64; omega
  have u2 : wrap64 p = p := by unfold wrap64; omega
  unfold vec
  go_enter Try.func76, Try.ntmps76
  go_wp2_with fail
  go_ret
  exact ⟨rfl, (Below.refl w.heap.size w).alloc (Nat.le_refl _) _⟩

/-- Does a number of the vector stand at place p? -/
def standsB (off k inc p : Int) : Bool := decide (off ≤ p ∧ (p - off) % inc = 0 ∧ (p - off) / inc < k)

theorem stands_any (A : Option Addr) (n c : Nat) (off k inc p : Int) (w : World) (ho : 0 ≤ off ∧ off < 9223372036854775808) (hp : 0 ≤ p ∧ p < 9223372036854775808) (hi : 1 ≤ inc ∧ inc < 9223372036854775808) :
    Calls Try.prog 75 #[vec A n c off k inc, .int .i64 p] w fun e w' => e = .returned (.bool (standsB off k inc p)) ∧ Below w.heap.size w w' := by
  have u0 : wrap64 (p - off) = p - off := by unfold wrap64; omega
  have u1 : IntKind.i64.wrap (p - off) = p - off := wrapi (by omega) (by omega)
  have e0 : (inc == 0) = false := by simp; omega
  have hbel := (Below.refl w.heap.size w).alloc (Nat.le_refl _) (.cells #[.slice A n c, .int .i64 off, .int .i64 k, .int .i64 inc] 30)
  have hbelN := fun m => below_drewN hbel m
  unfold vec
  obtain ⟨q, hq⟩ : ∃ q, p - off = q := ⟨_, rfl⟩
  by_cases h1 : 0 ≤ q
  · have hd := h1
    have q0 : Int.tmod q inc = q % inc := Int.tmod_eq_emod_of_nonneg h1
    have q1 : Int.tdiv q inc = q / inc := Int.tdiv_eq_ediv_of_nonneg h1
    have q2 : 0 ≤ q % inc ∧ q % inc < inc := ⟨Int.emod_nonneg _ (by omega), Int.emod_lt_of_pos _ (by omega)⟩
    have q3 : 0 ≤ q / inc ∧ q / inc ≤ q := ⟨Int.ediv_nonneg h1 (by omega), Int.ediv_le_self _ h1⟩
    obtain ⟨m, hm⟩ : ∃ m, q % inc = m := ⟨_, rfl⟩
    obtain ⟨d, hd⟩ : ∃ d, q / inc = d := ⟨_, rfl⟩
    rw [hm] at q0 q2
    rw [hd] at q1 q3
    have w0 : IntKind.i64.wrap m = m := wrapi (by omega) (by omega)
    have w1 : IntKind.i64.wrap d = d := wrapi (by omega) (by omega)
    have hs : standsB off k inc p = (decide (m = 0) && decide (d < k)) := by
      unfold standsB
      rw [hq, hm, hd, Bool.eq_iff_iff]
      simp
      omega
    rw [hs]
    rw [hq] at u0 u1
    clear hm hd hs
    by_cases h2 : m = 0
    · subst h2
      go_enter Try.func75, Try.ntmps75
      go_wp2_with fail
      go_quiet (fail)
      go_wp2_with fail
      go_ret
      exact ⟨by simp, by first | exact hbel | exact hbel.drew | exact hbelN _⟩
    · have h2' : (m == 0) = false := by simp [h2]
      have h2'' : decide (m = 0) = false := by simp [h2]
      go_enter Try.func75, Try.ntmps75
      go_wp2_with fail
      go_quiet (fail)
      go_wp2_with fail
      go_ret
      exact ⟨by simp [h2], by first | exact hbel | exact hbel.drew | exact hbelN _⟩
  · have hs : standsB off k inc p = false := decide_eq_false (by omega)
    rw [hs]
    rw [hq] at u0 u1
    have hd : decide (0 ≤ q) = false := by simp; omega
    go_enter Try.func75, Try.ntmps75
    go_wp2_with fail
    go_quiet (fail)
    go_wp2_with fail
    go_ret
    exact ⟨rfl, by first | exact hbel | exact hbel.drew | exact hbelN _⟩

theorem mrow_any (A : Option Addr) (n c : Nat) (off k inc : Int) (w : World) :
    Calls Try.prog 74 #[vec A n c off k inc] w fun e w' => e = .returned (mat A n c off 1 k inc) ∧ Below w.heap.size w w' := by
  unfold vec mat
  go_enter Try.func74, Try.ntmps74
  go_wp2_with fail
  exact bodyPost_ret (v := .agg #[.slice A n c, .int .i64 off, .int .i64 1, .int .i64 k, .int .i64 inc]) (by simp [results, Try.results74, go_sem]) rfl ⟨rfl, ((Below.refl w.heap.size w).alloc (Nat.le_refl _) _).alloc (by simp) _⟩
end Go.Proofs.Ytjjneiidggcfdaa
set_option linter.unusedVariables false
namespace Go.Proofs.Ytjjneiidggcfdaa
open Go.RowKit

theorem held8 {w W w' : World} {b0 o0 b1 o1 b2 o2 b3 o3 b4 o4 b5 o5 b6 o6 b7 o7 : Nat} {v0 v1 v2 v3 v4 v5 v6 v7 : Value} (h : W.cell? ⟨b0, o0, none⟩ = some v0 ∧ W.cell? ⟨b1, o1, none⟩ = some v1 ∧ W.cell? ⟨b2, o2, none⟩ = some v2 ∧ W.cell? ⟨b3, o3, none⟩ = some v3 ∧ W.cell? ⟨b4, o4, none⟩ = some v4 ∧ W.cell? ⟨b5, o5, none⟩ = some v5 ∧ W.cell? ⟨b6, o6, none⟩ = some v6 ∧ W.cell? ⟨b7, o7, none⟩ = some v7 ∧ Below w.heap.size w W) (hb : Below W.heap.size W w') :
    w'.cell? ⟨b0, o0, none⟩ = some v0 ∧ w'.cell? ⟨b1, o1, none⟩ = some v1 ∧ w'.cell? ⟨b2, o2, none⟩ = some v2 ∧ w'.cell? ⟨b3, o3, none⟩ = some v3 ∧ w'.cell? ⟨b4, o4, none⟩ = some v4 ∧ w'.cell? ⟨b5, o5, none⟩ = some v5 ∧ w'.cell? ⟨b6, o6, none⟩ = some v6 ∧ w'.cell? ⟨b7, o7, none⟩ = some v7 ∧ Below w.heap.size w w' :=
  ⟨cell_below h.1 hb, cell_below h.2.1 hb, cell_below h.2.2.1 hb, cell_below h.2.2.2.1 hb, cell_below h.2.2.2.2.1 hb, cell_below h.2.2.2.2.2.1 hb, cell_below h.2.2.2.2.2.2.1 hb, cell_below h.2.2.2.2.2.2.2.1 hb, h.2.2.2.2.2.2.2.2.trans (hb.mono h.2.2.2.2.2.2.2.2.size)⟩
theorem meet_own (g g' c c' : Nat) (l l' : List Nat) (off r k ld off' r' k' ld' : Int) (w : World) (hO : Own w g l) (hO' : Own w g' l') (hn : l.length < 9223372036854775808) (ho : I64 off) (hr : I64 r) (hk : I64 k) (hi : I64 ld)
    (hn' : l'.length < 9223372036854775808) (ho' : I64 off') (hr' : I64 r') (hk' : I64 k') (hi' : I64 ld') :
    Calls Try.prog 73 #[mat (some ⟨g, 0, none⟩) l.length c off r k ld, mat (some ⟨g', 0, none⟩) l'.length c' off' r' k' ld'] w
      fun e w' => e = .returned (.bool (bothB l.length off r k ld l'.length off' r' k' ld' && decide (g = g') && (decide (off ≤ lastI off' r' k' ld') && decide (off' ≤ lastI off r k ld)))) ∧ Below w.heap.size w w' := by
  cases hb : bothB l.length off r k ld l'.length off' r' k' ld'
  · exact meet_none _ _ c off r k ld _ _ c' off' r' k' ld' w hn ho hr hk hi hn' ho' hr' hk' hi' hb
  · have p0 : 0 < l.length := both_pos hb
    have p0' : 0 < l'.length := by
      unfold bothB at hb
      simp only [Bool.and_eq_true, Bool.not_eq_true', Bool.or_eq_false_iff, beq_eq_false_iff_ne, ne_eq] at hb
      have g1 := of_decide_eq_true hb.1.1.2
      have h0 : 0 ≤ (k' - 1) * ld' := Int.mul_nonneg (by omega) (by omega)
      omega
    by_cases e : g = g'
    · subst e
      have := meet_same g 0 l.length c off r k ld l'.length c' off' r' k' ld' w hn ho hr hk hi hn' ho' hr' hk' hi' hb p0 p0'
      simpa using this
    · have hq : ∀ W, Below w.heap.size w W → (binOp .eql 100 (.pointer (some ⟨g, 0, none⟩)) (.pointer (some ⟨g', 0, none⟩))).run Try.prog W = .ok (.bool false) W := by
        intro W hW
        obtain ⟨cs, hB, ht⟩ := hO'.nxt hW
        refine run_eql_far e ((hO.nxt hW).get 0 p0) ((hO.nxt hW).frozen 0) hB ?_
        have h1 := congrArg List.length ht
        simp [f64s] at h1
        omega
      have := meet_far g 0 l.length c off r k ld g' 0 l'.length c' off' r' k' ld' w hn ho hr hk hi hn' ho' hr' hk' hi' hb p0 p0' hq
      simpa [e] using this
end Go.Proofs.Ytjjneiidggcfdaa
set_option linter.unusedVariables false
namespace Go.Proofs.Ytjjneiidggcfdaa
open Go.RowKit
attribute [local go_sem ↓] Go.wp_at_zero Go.wp_at_succ

/-- Have vectors of K numbers a place in common? -/
def metB (off inc off' inc' K : Nat) : Bool := (List.range K).any fun i => (List.range K).any fun j => off + i * inc == off' + j * inc'
theorem metB_true {off inc off' inc' K : Nat} : metB off inc off' inc' K = true ↔ ∃ i, i < K ∧ ∃ j, j < K ∧ off + i * inc = off' + j * inc' := by
  simp [metB]
theorem metB_false {off inc off' inc' K : Nat} : metB off inc off' inc' K = false ↔ ∀ i, i < K → ∀ j, j < K → off + i * inc ≠ off' + j * inc' := by
  rw [← Bool.not_eq_true, metB_true]
  constructor
  · intro h i hi j hj e
    exact h ⟨i, hi, j, hj, e⟩
  · rintro h ⟨i, hi, j, hj, e⟩
    exact h i hi j hj e

theorem vec_mat (n : Nat) (off k inc : Int) : matB n off 1 k inc = vecB n off k inc := by
  unfold matB vecB
  exact decide_eq_decide.2 (by omega)
/-- A right vector, in plain numbers. -/
theorem vec_nat {n : Nat} {off k inc : Int} (h : vecB n off k inc = true) : ∃ o K i : Nat, off = o ∧ k = K ∧ inc = i ∧ 1 ≤ i ∧ (K = 0 ∨ o + (K - 1) * i < n) := by
  have h := of_decide_eq_true h
  refine ⟨off.toNat, k.toNat, inc.toNat, by omega, by omega, by omega, by omega, ?_⟩
  rcases h.2.2.2 with h0 | h0
  · exact .inl (by omega)
  · by_cases hk : k = 0
    · exact .inl (by omega)
    · refine .inr ?_
      have e : ((off.toNat + (k.toNat - 1) * inc.toNat : Nat) : Int) = off + (k - 1) * inc := by
        rw [Int.natCast_add, Int.natCast_mul, Int.toNat_of_nonneg (by omega), Int.toNat_of_nonneg (by omega : 0 ≤ inc)]
        congr 2
        omega
      omega
theorem vec_right {n o K i : Nat} (hi : 1 ≤ i) (h : K = 0 ∨ o + (K - 1) * i < n) : vecB n (o : Int) (K : Int) (i : Int) = true := by
  refine decide_eq_true ⟨by omega, by omega, by omega, ?_⟩
  rcases h with h | h
  · exact .inl (by omega)
  · rcases Nat.eq_zero_or_pos K with h0 | h0
    · exact .inl (by omega)
    · refine .inr ?_
      have e : ((K : Int) - 1) * (i : Int) = (((K - 1) * i : Nat) : Int) := by rw [Int.natCast_mul]; congr 1; omega
      rw [e]; omega

theorem stands_iff {off' K inc' p : Nat} (hi : 1 ≤ inc') : standsB (off' : Int) (K : Int) (inc' : Int) (p : Int) = true ↔ ∃ j, j < K ∧ p = off' + j * inc' := by
  unfold standsB
  rw [decide_eq_true_eq]
  constructor
  · rintro ⟨h1, h2, h3⟩
    obtain ⟨q, hq⟩ : ∃ q : Nat, (p : Int) - off' = q := ⟨p - off', by omega⟩
    rw [hq] at h2 h3
    have h2' : q % inc' = 0 := by exact_mod_cast h2
    have h3' : q / inc' < K := by exact_mod_cast h3
    refine ⟨q / inc', h3', ?_⟩
    have := Nat.div_add_mod q inc'
    rw [h2', Nat.mul_comm] at this
    omega
  · rintro ⟨j, hj, rfl⟩
    have e : ((off' + j * inc' : Nat) : Int) - off' = ((j * inc' : Nat) : Int) := by omega
    rw [e]
    refine ⟨by omega, ?_, ?_⟩
    · have : j * inc' % inc' = 0 := Nat.mul_mod_left _ _
      exact_mod_cast this
    · have : j * inc' / inc' = j := Nat.mul_div_cancel _ hi
      have h2 : ((j * inc' : Nat) : Int) / (inc' : Int) = ((j * inc' / inc' : Nat) : Int) := by simp
      rw [h2, this]; exact_mod_cast hj
theorem stands_not {off' K inc' p : Nat} (hi : 1 ≤ inc') (h : standsB (off' : Int) (K : Int) (inc' : Int) (p : Int) = false) : ∀ j, j < K → p ≠ off' + j * inc' := by
  intro j hj e
  rw [(stands_iff hi).2 ⟨j, hj, e⟩] at h
  cases h

/-- What Meet says of the rows that two vectors of K numbers are. -/
def spanB (n o i n' o' i' K : Nat) : Bool := bothB n o 1 K i n' o' 1 K i' && (decide ((o : Int) ≤ lastI o' 1 K i') && decide ((o' : Int) ≤ lastI o 1 K i))
theorem span_not {n o i n' o' i' K : Nat} (hi : 1 ≤ i) (hi' : 1 ≤ i') (hr : K = 0 ∨ o + (K - 1) * i < n) (hr' : K = 0 ∨ o' + (K - 1) * i' < n') (h : spanB n o i n' o' i' K = false) : metB o i o' i' K = false := by
  rw [metB_false]
  intro a ha b hb e
  have h1 : bothB n o 1 K i n' o' 1 K i' = true := by
    unfold bothB
    rw [vec_mat, vec_mat, vec_right hi hr, vec_right hi' hr']
    have : ((K : Int) == 0) = false := by simp; omega
    simp [this]
  unfold spanB at h
  rw [h1] at h
  have a1 : a * i ≤ (K - 1) * i := Nat.mul_le_mul_right _ (by omega)
  have b1 : b * i' ≤ (K - 1) * i' := Nat.mul_le_mul_right _ (by omega)
  have e1 : ((K : Int) - 1) * (i : Int) = (((K - 1) * i : Nat) : Int) := by rw [Int.natCast_mul]; congr 1; omega
  have e2 : ((K : Int) - 1) * (i' : Int) = (((K - 1) * i' : Nat) : Int) := by rw [Int.natCast_mul]; congr 1; omega
  unfold lastI at h
  rw [e1, e2] at h
  simp at h
  omega

theorem and_turn (a b c : Bool) : (a && b && c) = (b && (a && c)) := by cases a <;> cases b <;> cases c <;> rfl
theorem meet_rows (g g' c c' : Nat) (l l' : List Nat) (n n' o i o' i' K : Nat) (w : World) (hO : Own w g l) (hO' : Own w g' l') (hln : l.length = n) (hln' : l'.length = n') (hn : n < 9223372036854775808) (hn' : n' < 9223372036854775808)
    (hb : o < 9223372036854775808 ∧ i < 9223372036854775808 ∧ o' < 9223372036854775808 ∧ i' < 9223372036854775808 ∧ K < 9223372036854775808) :
    Calls Try.prog 73 #[mat (some ⟨g, 0, none⟩) n c o 1 K i, mat (some ⟨g', 0, none⟩) n' c' o' 1 K i'] w fun e w' => e = .returned (.bool (decide (g = g') && spanB n o i n' o' i' K)) ∧ Below w.heap.size w w' := by
  subst hln hln'
  have h := meet_own g g' c c' l l' (o : Int) 1 (K : Int) (i : Int) (o' : Int) 1 (K : Int) (i' : Int) w hO hO' hn (by unfold I64; omega) (by unfold I64; omega) (by unfold I64; omega) (by unfold I64; omega) hn' (by unfold I64; omega) (by unfold I64; omega) (by unfold I64; omega) (by unfold I64; omega)
  rw [and_turn] at h
  exact h

set_option maxHeartbeats 1000000 in
theorem mmeet_any (g g' c c' : Nat) (l l' : List Nat) (n n' o i o' i' K : Nat) (w : World) (hO : Own w g l) (hO' : Own w g' l') (hln : l.length = n) (hln' : l'.length = n') (hn : n < 9223372036854775808) (hn' : n' < 9223372036854775808)
    (hb : o < 9223372036854775808 ∧ i < 9223372036854775808 ∧ o' < 9223372036854775808 ∧ i' < 9223372036854775808 ∧ K < 9223372036854775808) (hi : 1 ≤ i) (hi' : 1 ≤ i') (hr : K = 0 ∨ o + (K - 1) * i < n) (hr' : K = 0 ∨ o' + (K - 1) * i' < n') :
    Calls Try.prog 68 #[vec (some ⟨g, 0, none⟩) n c o K i, vec (some ⟨g', 0, none⟩) n' c' o' K i'] w fun e w' => e = .returned (.bool (decide (g = g') && metB o i o' i' K)) ∧ Below w.heap.size w w' := by
  have HMt := Lib.hid (fun W (h : Below w.heap.size w W) => meet_rows g g' c c' l l' n n' o i o' i' K W (hO.nxt h) (hO'.nxt h) hln hln' hn hn' hb)
  obtain ⟨m, hm⟩ : ∃ m, (decide (g = g') && spanB n o i n' o' i' K) = m := ⟨_, rfl⟩
  obtain ⟨y, hy⟩ : ∃ y, (decide (g = g') && metB o i o' i' K) = y := ⟨_, rfl⟩
  have hmy : m = false → y = false := by
    intro h
    rw [h] at hm
    rw [← hy]
    cases hg : decide (g = g')
    · rfl
    · rw [hg] at hm
      rw [span_not hi hi' hr hr' (by simpa using hm)]; rfl
  have hmt : m = true → y = metB o i o' i' K := by
    intro h
    rw [h] at hm
    rw [← hy]
    cases hg : decide (g = g')
    · rw [hg] at hm; cases hm
    · rfl
  have HPl := Lib.hid (fun W (a : Nat) (h : a < K) => mplace_any (some ⟨g, 0, none⟩) n c o K i a ((o + a * i : Nat) : Int) W (by simp) (by
    have : a * i ≤ (K - 1) * i := Nat.mul_le_mul_right _ (by omega)
    have e : ((a : Int) * (i : Int)) = ((a * i : Nat) : Int) := by simp
    rw [e]; unfold I64; omega) (by
    have : a * i ≤ (K - 1) * i := Nat.mul_le_mul_right _ (by omega)
    unfold I64; omega))
  have HSt := Lib.hid (fun W (a : Nat) (h : a < K) => stands_any (some ⟨g', 0, none⟩) n' c' o' K i' ((o + a * i : Nat) : Int) W (by omega) (by
    have : a * i ≤ (K - 1) * i := Nat.mul_le_mul_right _ (by omega)
    omega) (by omega))
  have HRw := Lib.hid (fun W A n c off k inc => mrow_any A n c off k inc W)
  rw [hm] at HMt
  rw [hy]
  have HMy := Lib.hid hmy
  have HMtt := Lib.hid hmt
  have HI' := Lib.hid hi'
  have hKb : K < 9223372036854775808 := hb.2.2.2.2
  clear hmy hmt hm hy hO hO' hln hln' hn hn' hb hi hi' hr hr'
  unfold vec at *
  unfold mat at *
  go_enter Try.func68, Try.ntmps68
  have hz0 := (Blk.new w 30 #[.slice (some ⟨g, 0, none⟩) n c, .int .i64 o, .int .i64 K, .int .i64 i]).alloc (.cells #[.slice (some ⟨g', 0, none⟩) n' c', .int .i64 o', .int .i64 K, .int .i64 i'] 30)
  have hz1 := Blk.new_ (w.alloc (.cells #[.slice (some ⟨g, 0, none⟩) n c, .int .i64 o, .int .i64 K, .int .i64 i] 30)) 30 #[.slice (some ⟨g', 0, none⟩) n' c', .int .i64 o', .int .i64 K, .int .i64 i'] (w.heap.size + 1) (by simp)
  have hbl := ((Below.refl w.heap.size w).alloc (Nat.le_refl _) (.cells #[.slice (some ⟨g, 0, none⟩) n c, .int .i64 o, .int .i64 K, .int .i64 i] 30)).alloc (by simp) (.cells #[.slice (some ⟨g', 0, none⟩) n' c', .int .i64 o', .int .i64 K, .int .i64 i'] 30)
  have HBl := Lib.hid hbl
  obtain ⟨c0, c1, c2, c3⟩ := cells4w hz0
  obtain ⟨d0, d1, d2, d3⟩ := cells4w hz1
  clear hz0 hz1 hbl
  go_wp2_with fail
  go_region_held3 (fun w' => w'.cell? ⟨w.heap.size, 0, none⟩ = some (.slice (some ⟨g, 0, none⟩) n c) ∧ w'.cell? ⟨w.heap.size, 1, none⟩ = some (.int .i64 o) ∧ w'.cell? ⟨w.heap.size, 2, none⟩ = some (.int .i64 K) ∧ w'.cell? ⟨w.heap.size, 3, none⟩ = some (.int .i64 i) ∧ w'.cell? ⟨w.heap.size + 1, 0, none⟩ = some (.slice (some ⟨g', 0, none⟩) n' c') ∧ w'.cell? ⟨w.heap.size + 1, 1, none⟩ = some (.int .i64 o') ∧ w'.cell? ⟨w.heap.size + 1, 2, none⟩ = some (.int .i64 K) ∧ w'.cell? ⟨w.heap.size + 1, 3, none⟩ = some (.int .i64 i') ∧ Below w.heap.size w w')
    (first | exact ⟨c0, c1, c2, c3, d0, d1, d2, d3, HBl.out.drew⟩ | exact held8 ‹_ ∧ _ ∧ _ ∧ _ ∧ _ ∧ _ ∧ _ ∧ _ ∧ Below w.heap.size w _› hbA)
    (first
      | (go_at_call 73; refine (HMt.out _ (‹_ ∧ _ ∧ _ ∧ _ ∧ _ ∧ _ ∧ _ ∧ _ ∧ Below w.heap.size w _›).2.2.2.2.2.2.2.2).mono ?_; rintro e1 wA ⟨rfl, hbA⟩; skip)
      | (go_at_call 74; refine (HRw.out _ _ _ _ _ _ _).mono ?_; rintro e1 wA ⟨rfl, hbA⟩; skip))
  have HBl := Lib.hid (‹_ ∧ _ ∧ _ ∧ _ ∧ _ ∧ _ ∧ _ ∧ _ ∧ Below w.heap.size w _›).2.2.2.2.2.2.2.2
  obtain ⟨c0, c1, c2, c3, d0, d1, d2, d3, _⟩ := ‹_ ∧ _ ∧ _ ∧ _ ∧ _ ∧ _ ∧ _ ∧ _ ∧ Below w.heap.size w _›
  cases m
  · go_wp2_with fail
    go_ret
    rw [HMy.out (by simp)]
    exact ⟨rfl, HBl.out⟩
  · have HYm := Lib.hid (HMtt.out (by simp))
    clear HMy HMtt
    simp only [Bool.not_true]
    go_wp2_with fail
    go_loopw [14] (fun a wr => ∃ q : Nat, q ≤ K ∧ a = .int .i64 q ∧ (∀ x, x < q → ∀ j, j < K → o + x * i ≠ o' + j * i') ∧ wr.cell? ⟨w.heap.size, 0, none⟩ = some (.slice (some ⟨g, 0, none⟩) n c) ∧ wr.cell? ⟨w.heap.size, 1, none⟩ = some (.int .i64 o) ∧ wr.cell? ⟨w.heap.size, 2, none⟩ = some (.int .i64 K) ∧ wr.cell? ⟨w.heap.size, 3, none⟩ = some (.int .i64 i) ∧ wr.cell? ⟨w.heap.size + 1, 0, none⟩ = some (.slice (some ⟨g', 0, none⟩) n' c') ∧ wr.cell? ⟨w.heap.size + 1, 1, none⟩ = some (.int .i64 o') ∧ wr.cell? ⟨w.heap.size + 1, 2, none⟩ = some (.int .i64 K) ∧ wr.cell? ⟨w.heap.size + 1, 3, none⟩ = some (.int .i64 i') ∧ Below w.heap.size w wr) (fun a _ => K - (intOf a).toNat)
    case atStart => exact ⟨0, Nat.zero_le _, rfl, fun x hx => by omega, c0, c1, c2, c3, d0, d1, d2, d3, HBl.out⟩
    case round =>
      clear c0 c1 c2 c3 d0 d1 d2 d3
      obtain ⟨q, hq, rfl, hno, c0, c1, c2, c3, d0, d1, d2, d3, hbl⟩ := hrel
      have HBl3 := Lib.hid hbl
      have HNo := Lib.hid hno
      clear hbl hno
      by_cases hlt : q < K
      · have HPl1 := Lib.hid (fun W => HPl.out W q hlt)
        have HSt1 := Lib.hid (fun W => HSt.out W q hlt)
        obtain ⟨p, hp⟩ : ∃ p : Nat, o + q * i = p := ⟨_, rfl⟩
        rw [hp] at HPl1 HSt1
        have Hp := Lib.hid hp
        clear hp
        obtain ⟨s, hs⟩ : ∃ s, standsB o' K i' p = s := ⟨_, rfl⟩
        rw [hs] at HSt1
        have Hs := Lib.hid hs
        clear hs
        go_wp2_with fail
        go_region_held3 (fun w' => w'.cell? ⟨w.heap.size, 0, none⟩ = some (.slice (some ⟨g, 0, none⟩) n c) ∧ w'.cell? ⟨w.heap.size, 1, none⟩ = some (.int .i64 o) ∧ w'.cell? ⟨w.heap.size, 2, none⟩ = some (.int .i64 K) ∧ w'.cell? ⟨w.heap.size, 3, none⟩ = some (.int .i64 i) ∧ w'.cell? ⟨w.heap.size + 1, 0, none⟩ = some (.slice (some ⟨g', 0, none⟩) n' c') ∧ w'.cell? ⟨w.heap.size + 1, 1, none⟩ = some (.int .i64 o') ∧ w'.cell? ⟨w.heap.size + 1, 2, none⟩ = some (.int .i64 K) ∧ w'.cell? ⟨w.heap.size + 1, 3, none⟩ = some (.int .i64 i') ∧ Below w.heap.size w w')
          (first | exact ⟨c0, c1, c2, c3, d0, d1, d2, d3, HBl3.out.drew⟩ | exact held8 ‹_ ∧ _ ∧ _ ∧ _ ∧ _ ∧ _ ∧ _ ∧ _ ∧ Below w.heap.size w _› hbA)
          (first
            | (go_at_call 76; refine (HPl1.out _).mono ?_; rintro e1 wA ⟨rfl, hbA⟩; skip)
            | (go_at_call 75; refine (HSt1.out _).mono ?_; rintro e1 wA ⟨rfl, hbA⟩; skip))
        have HBl2 := Lib.hid (‹_ ∧ _ ∧ _ ∧ _ ∧ _ ∧ _ ∧ _ ∧ _ ∧ Below w.heap.size w _›).2.2.2.2.2.2.2.2
        obtain ⟨c0, c1, c2, c3, d0, d1, d2, d3, _⟩ := ‹_ ∧ _ ∧ _ ∧ _ ∧ _ ∧ _ ∧ _ ∧ _ ∧ Below w.heap.size w _›
        cases s
        · go_wp2_with fail
          go_roundw
          case rel => exact ⟨q + 1, by omega, by go_num, (fun x hx j hj => by
            by_cases e : x = q
            · subst e; rw [Hp.out]; exact stands_not HI'.out Hs.out j hj
            · exact HNo.out x (by omega) j hj), c0, c1, c2, c3, d0, d1, d2, d3, HBl2.out⟩
          case measure => simp [intOf]; omega
        · go_wp2_with fail
          go_ret
          have hy : y = true := by
            rw [HYm.out, metB_true]
            obtain ⟨j, hj, e⟩ := (stands_iff HI'.out).1 Hs.out
            exact ⟨q, hlt, j, hj, by rw [Hp.out]; exact e⟩
          rw [hy]
          exact ⟨rfl, HBl2.out⟩
      · obtain rfl : q = K := by omega
        go_wp2_with fail
        go_ret
        have hy : y = false := by
          rw [HYm.out, metB_false]
          exact HNo.out
        rw [hy]
        exact ⟨rfl, HBl3.out⟩
end Go.Proofs.Ytjjneiidggcfdaa
set_option linter.unusedVariables false
namespace Go.Proofs.Ytjjneiidggcfdaa
open Go.RowKit
attribute [local go_sem ↓] Go.wp_at_zero Go.wp_at_succ

/-- Which error, or 0. -/
def pairI (same : Bool) (n : Nat) (off k inc : Int) (n' : Nat) (off' k' inc' : Int) : Int :=
  if vecB n off k inc then (if vecB n' off' k' inc' then (if k = k' then (if same && metB off.toNat inc.toNat off'.toNat inc'.toNat k.toNat then 2 else 0) else 3) else 1) else 1

theorem pair_any (g g' c c' : Nat) (l l' : List Nat) (n n' : Nat) (off k inc off' k' inc' : Int) (w : World) (hO : Own w g l) (hO' : Own w g' l') (hln : l.length = n) (hln' : l'.length = n') (hn : n < 9223372036854775808) (hn' : n' < 9223372036854775808)
    (ho : I64 off) (hk : I64 k) (hi : I64 inc) (ho' : I64 off') (hk' : I64 k') (hi' : I64 inc') :
    Calls Try.prog 53 #[vec (some ⟨g, 0, none⟩) n c off k inc, vec (some ⟨g', 0, none⟩) n' c' off' k' inc'] w fun e w' => e = .returned (.int .i64 (pairI (decide (g = g')) n off k inc n' off' k' inc')) ∧ Below w.heap.size w w' := by
  have HR := Lib.hid (fun W => right_any (some ⟨g, 0, none⟩) n c off k inc W (by omega) ho hk hi)
  have HR' := Lib.hid (fun W => right_any (some ⟨g', 0, none⟩) n' c' off' k' inc' W (by omega) ho' hk' hi')
  have HMt := Lib.hid (fun (h : vecB n off k inc = true) (h' : vecB n' off' k' inc' = true) (e : k = k') W (hb : Below w.heap.size w W) =>
    show Calls Try.prog 68 #[vec (some ⟨g, 0, none⟩) n c off k inc, vec (some ⟨g', 0, none⟩) n' c' off' k' inc'] W fun e w' => e = .returned (.bool (decide (g = g') && metB off.toNat inc.toNat off'.toNat inc'.toNat k.toNat)) ∧ Below W.heap.size W w' by
      obtain ⟨o, K, i, rfl, rfl, rfl, h1, h2⟩ := vec_nat h
      obtain ⟨o', K', i', rfl, e2, rfl, h1', h2'⟩ := vec_nat h'
      subst e
      obtain rfl : K = K' := by omega
      unfold I64 at ho hk hi ho' hi'
      have := mmeet_any g g' c c' l l' n n' o i o' i' K W (hO.nxt hb) (hO'.nxt hb) hln hln' hn hn' (by omega) h1 h1' h2 h2'
      simpa only [Int.toNat_natCast] using this)
  have hp : pairI (decide (g = g')) n off k inc n' off' k' inc' = if vecB n off k inc then (if vecB n' off' k' inc' then (if k = k' then (if decide (g = g') && metB off.toNat inc.toNat off'.toNat inc'.toNat k.toNat then 2 else 0) else 3) else 1) else 1 := rfl
  obtain ⟨p, hp0⟩ : ∃ p, pairI (decide (g = g')) n off k inc n' off' k' inc' = p := ⟨_, rfl⟩
  rw [hp0] at hp
  rw [hp0]
  generalize vecB n off k inc = x at *
  generalize vecB n' off' k' inc' = x' at *
  generalize (decide (g = g') && metB off.toNat inc.toNat off'.toNat inc'.toNat k.toNat) = y at *
  have HP := Lib.hid hp
  clear hp hp0 hO hO' hln hln' hn hn' ho hk hi ho' hk' hi'
  unfold vec at *
  go_enter Try.func53, Try.ntmps53
  have hz0 := (Blk.new w 30 #[.slice (some ⟨g, 0, none⟩) n c, .int .i64 off, .int .i64 k, .int .i64 inc]).alloc (.cells #[.slice (some ⟨g', 0, none⟩) n' c', .int .i64 off', .int .i64 k', .int .i64 inc'] 30)
  have hz1 := Blk.new_ (w.alloc (.cells #[.slice (some ⟨g, 0, none⟩) n c, .int .i64 off, .int .i64 k, .int .i64 inc] 30)) 30 #[.slice (some ⟨g', 0, none⟩) n' c', .int .i64 off', .int .i64 k', .int .i64 inc'] (w.heap.size + 1) (by simp)
  have HZ0 := Lib.hid hz0
  have HZ1 := Lib.hid hz1
  have HBl := Lib.hid (((Below.refl w.heap.size w).alloc (Nat.le_refl _) (.cells #[.slice (some ⟨g, 0, none⟩) n c, .int .i64 off, .int .i64 k, .int .i64 inc] 30)).alloc (by simp) (.cells #[.slice (some ⟨g', 0, none⟩) n' c', .int .i64 off', .int .i64 k', .int .i64 inc'] 30))
  clear hz0 hz1
  go_wp2_with fail
  refine (HR.out _).mono ?_
  rintro e w1 ⟨rfl, hb1⟩
  have HB1 := Lib.hid (HBl.out.trans (hb1.mono HBl.out.size))
  have HZ2 := Lib.hid (HZ0.out.nxt hb1)
  have HZ3 := Lib.hid (HZ1.out.nxt hb1)
  clear hb1
  obtain ⟨c0, c1, c2, c3⟩ := cells4w HZ2.out
  obtain ⟨d0, d1, d2, d3⟩ := cells4w HZ3.out
  cases x
  · have hp := HP.out
    simp only [Bool.false_eq_true, if_false] at hp
    subst hp
    go_wp2_with fail
    go_ret
    exact ⟨rfl, HB1.out⟩
  go_wp2_with fail
  refine (HR'.out _).mono ?_
  rintro e w2 ⟨rfl, hb1⟩
  have HB2 := Lib.hid (HB1.out.trans (hb1.mono HB1.out.size))
  have HZ4 := Lib.hid (HZ2.out.nxt hb1)
  have HZ5 := Lib.hid (HZ3.out.nxt hb1)
  clear hb1 c0 c1 c2 c3 d0 d1 d2 d3
  obtain ⟨c0, c1, c2, c3⟩ := cells4w HZ4.out
  obtain ⟨d0, d1, d2, d3⟩ := cells4w HZ5.out
  cases x'
  · have hp := HP.out
    simp only [Bool.false_eq_true, if_false, if_true] at hp
    subst hp
    go_wp2_with fail
    go_ret
    exact ⟨rfl, HB2.out⟩
  by_cases hkk : k = k'
  · have HM := Lib.hid (HMt.out (by trivial) (by trivial) hkk)
    have hp := HP.out
    simp only [if_true, if_pos hkk] at hp
    have hkk2 : (k == k') = true := by simp [hkk]
    subst hkk
    have HP2 := Lib.hid hp
    clear hp HP HMt
    go_wp2_with fail
    refine (HM.out _ HB2.out).mono ?_
    rintro e w3 ⟨rfl, hb1⟩
    have HB3 := Lib.hid (HB2.out.trans (hb1.mono HB2.out.size))
    clear hb1 c0 c1 c2 c3 d0 d1 d2 d3
    cases y
    · have hp := HP2.out
      simp only [Bool.false_eq_true, if_false] at hp
      subst hp
      go_wp2_with fail
      go_ret
      exact ⟨rfl, HB3.out⟩
    · have hp := HP2.out
      simp only [if_true] at hp
      subst hp
      go_wp2_with fail
      go_ret
      exact ⟨rfl, HB3.out⟩
  · have hp := HP.out
    simp only [if_true, if_neg hkk] at hp
    subst hp
    have hkk2 : (k == k') = false := by simp [hkk]
    clear HMt
    go_wp2_with fail
    go_ret
    exact ⟨rfl, HB2.out⟩
end Go.Proofs.Ytjjneiidggcfdaa
set_option linter.unusedVariables false
namespace Go.Proofs.Ytjjneiidggcfdaa
open Go.RowKit
attribute [local go_sem ↓] Go.wp_at_zero Go.wp_at_succ

/-- Between: nothing has changed, or the one list has. -/
def Mid (G : List Nat) (wr : World) (s s' : Nat → List Nat) (w' : World) : Prop := Chg G wr w' ∧ (Has w' G s ∨ Has w' G s')
theorem cell_self {W : World} {g P : Nat} {x u : Value} (hc : W.cell? ⟨g, P, none⟩ = some x) : (W.setCell ⟨g, P, none⟩ u).cell? ⟨g, P, none⟩ = some u := World.cell?_setCell_same' W _ u (by rw [hc]; rfl)
section
variable {G : List Nat} {wr W w' : World} {s : Nat → List Nat} {g P v : Nat}
theorem Mid.start {s' : Nat → List Nat} (h : Has w' G s) (hc : Chg G wr w') : Mid G wr s s' w' := ⟨hc, .inl h⟩
theorem Mid.nxt {s' : Nat → List Nat} (h : Mid G wr s s' W) (hb : Below W.heap.size W w') : Mid G wr s s' w' := ⟨h.1.nxt hb, h.2.imp (fun k => k.nxt hb) (fun k => k.nxt hb)⟩
theorem Mid.store (h : Mid G wr s (upd s g ((s g).set P v)) W) (hg : g ∈ G) (hP : P < (s g).length) : Has (W.setCell ⟨g, P, none⟩ (.float .f64 v)) G (upd s g ((s g).set P v)) ∧ Chg G wr (W.setCell ⟨g, P, none⟩ (.float .f64 v)) := by
  refine ⟨?_, h.1.set_in hg _⟩
  rcases h.2 with h | h
  · exact h.set_ hg v hP
  · have := h.set_ hg v (i := P) (by rw [upd_self, List.length_set]; exact hP)
    simpa [upd_self, upd_upd] using this
theorem Mid.stored (h : Mid G wr s (upd s g ((s g).set P v)) W) (hg : g ∈ G) (hP : P < (s g).length) : Mid G wr s (upd s g ((s g).set P v)) (W.setCell ⟨g, P, none⟩ (.float .f64 v)) := ⟨(h.store hg hP).2, .inr (h.store hg hP).1⟩
theorem Mid.done {x : Value} (h : Mid G wr s (upd s g ((s g).set P v)) (W.setCell ⟨g, P, none⟩ (.float .f64 v))) (hg : g ∈ G) (hP : P < (s g).length) (hc : W.cell? ⟨g, P, none⟩ = some x) : Has (W.setCell ⟨g, P, none⟩ (.float .f64 v)) G (upd s g ((s g).set P v)) ∧ Chg G wr (W.setCell ⟨g, P, none⟩ (.float .f64 v)) := by
  refine ⟨?_, h.1⟩
  rcases h.2 with k | k
  · have h1 := k.get hg hP
    rw [cell_self hc] at h1
    have h2 : v = (s g).getD P 0 := by simpa using h1
    have h3 : (s g).set P v = s g := by
      rw [h2, getD_of_lt hP]; exact List.set_getElem_self hP
    rw [h3, upd_same]; exact k
  · exact k
end
end Go.Proofs.Ytjjneiidggcfdaa
set_option linter.unusedVariables false
namespace Go.Proofs.Ytjjneiidggcfdaa
open Go.RowKit
attribute [local go_sem ↓] Go.wp_at_zero Go.wp_at_succ

@[go_sem] theorem run_field_Off (A : Option Addr) (n c : Nat) (off r k ld : Int) (w : World) :
    (Instr.field 95 (.agg #[.slice A n c, .int .i64 off, .int .i64 r, .int .i64 k, .int .i64 ld]) 1).run Try.prog w = .ok (.int .i64 off) w := by kernel_rfl

end Go.Proofs.Ytjjneiidggcfdaa
set_option linter.unusedVariables false
set_option linter.unusedSimpArgs false
set_option linter.unnecessarySimpa false
namespace Go.Proofs.Ytjjneiidggcfdaa
open Go.RowKit
attribute [local go_sem ↓] Go.wp_at_zero Go.wp_at_succ

/-- What a region has made so far: its variables p and q hold these, or their first values. -/
def Two (w0 : World) (t : TypeId) (z a b : Array Value) (da db sa sb : Bool) (va vb : Value) (W : World) : Prop :=
  Below w0.heap.size w0 W ∧ (da = true → ∃ p, va = .pointer (some ⟨p, 0, none⟩) ∧ w0.heap.size ≤ p ∧ Blk W p t (if sa then a else z)) ∧
    (db = true → ∃ p, vb = .pointer (some ⟨p, 0, none⟩) ∧ w0.heap.size ≤ p ∧ Blk W p t (if sb then b else z)) ∧ (da = true → db = true → va ≠ vb)
section
variable {w0 W W' : World} {t : TypeId} {z a b : Array Value} {da db sa sb : Bool} {va vb : Value}
theorem Two.nxt (h : Two w0 t z a b da db sa sb va vb W) (hb : Below W.heap.size W W') : Two w0 t z a b da db sa sb va vb W' :=
  ⟨below_nx h.1 hb, fun e => by
    obtain ⟨p, h1, h2, h3⟩ := h.2.1 e
    exact ⟨p, h1, h2, h3.nxt hb⟩, fun e => by
    obtain ⟨p, h1, h2, h3⟩ := h.2.2.1 e
    exact ⟨p, h1, h2, h3.nxt hb⟩, h.2.2.2⟩
end
end Go.Proofs.Ytjjneiidggcfdaa
set_option linter.unusedVariables false
namespace Go.Proofs.Ytjjneiidggcfdaa
open Go.RowKit
attribute [local go_sem ↓] Go.wp_at_zero Go.wp_at_succ

/-- The list has the table T at the matrix' places, and is else as it was. -/
def Img (l : List Nat) (o R C L : Nat) (T : Nat → Nat → Nat) (l' : List Nat) : Prop :=
  l'.length = l.length ∧ (∀ a, a < R → ∀ b, b < C → l'.getD (o + a + b * L) 0 = T a b) ∧ ∀ x, (∀ a, a < R → ∀ b, b < C → x ≠ o + a + b * L) → l'.getD x 0 = l.getD x 0
theorem Img.refl (l : List Nat) (o R C L : Nat) : Img l o R C L (fun a b => l.getD (o + a + b * L) 0) l := ⟨rfl, fun _ _ _ _ => rfl, fun _ _ => rfl⟩
theorem Img.trans {l m m' : List Nat} {o R C L : Nat} {T T' : Nat → Nat → Nat} (h : Img l o R C L T m) (h' : Img m o R C L T' m') : Img l o R C L T' m' :=
  ⟨h'.1.trans h.1, h'.2.1, fun x hx => (h'.2.2 x hx).trans (h.2.2 x hx)⟩
theorem Img.congr {l m : List Nat} {o R C L : Nat} {T T' : Nat → Nat → Nat} (h : Img l o R C L T m) (e : ∀ a, a < R → ∀ b, b < C → T a b = T' a b) : Img l o R C L T' m :=
  ⟨h.1, fun a ha b hb => (h.2.1 a ha b hb).trans (e a ha b hb), h.2.2⟩
/-- The row that stands at a when rows i and j have changed places. -/
def sw (i j a : Nat) : Nat := if a = i then j else if a = j then i else a
theorem sw_lt {i j a R : Nat} (hi : i < R) (hj : j < R) (ha : a < R) : sw i j a < R := by unfold sw; split <;> (try split) <;> omega
end Go.Proofs.Ytjjneiidggcfdaa
set_option linter.unusedVariables false
namespace Go.Proofs.Ytjjneiidggcfdaa
open Go.RowKit
attribute [local go_sem ↓] Go.wp_at_zero Go.wp_at_succ

/-- The row that stands at a when the first k changes of the order have been made. -/
def prm (zs : List Int) : Nat → Nat → Nat
  | 0, a => a
  | k + 1, a => prm zs k (sw k (zs.getD k 0).toNat a)
theorem Img.step {l m m' : List Nat} {o R C L i j : Nat} {zs : List Int} {q : Nat} (h : Img l o R C L (fun a b => l.getD (o + prm zs q a + b * L) 0) m) (h' : Img m o R C L (fun a b => m.getD (o + sw i j a + b * L) 0) m') (hi : i < R) (hj : j < R) :
    Img l o R C L (fun a b => l.getD (o + prm zs q (sw i j a) + b * L) 0) m' :=
  (h.trans h').congr fun a ha b hb => h.2.1 _ (sw_lt hi hj ha) b hb

end Go.Proofs.Ytjjneiidggcfdaa
set_option linter.unusedVariables false
namespace Go.Proofs.Ytjjneiidggcfdaa
open Go.RowKit
attribute [local go_sem ↓] Go.wp_at_zero Go.wp_at_succ

theorem wrap3 {o a P : Nat} (hP : P < 1048576) (h : o + a = P) : wrap64 (a : Int) = (a : Int) ∧ wrap64 (P : Int) = (P : Int) ∧ IntKind.i64.wrap (a : Int) = (a : Int) ∧ IntKind.i64.wrap (P : Int) = (P : Int) :=
  ⟨wrap_id (by unfold I64; omega), wrap_id (by unfold I64; omega), wrapi (by omega) (by omega), wrapi (by omega) (by omega)⟩
end Go.Proofs.Ytjjneiidggcfdaa
namespace Go.Proofs.Ytjjneiidggcfdaa.Fl

theorem rne_le (n d : Nat) : n / 2 ^ d ≤ rne n d ∧ rne n d ≤ n / 2 ^ d + 1 := by unfold rne; split <;> omega
theorem mag_small {x : Nat} (h : x < 9007199254740992) : mag x = x := by
  unfold mag
  by_cases h1 : x < 4503599627370496
  · rw [if_pos h1]
  · rw [if_neg h1, show x / 4503599627370496 - 1 = 0 by omega]; simp; omega
theorem mag_place {m q : Nat} (h1 : 4503599627370496 ≤ m) (h2 : m < 9007199254740992) : mag (q * 4503599627370496 + m) = m * 2 ^ q := by
  unfold mag
  rw [if_neg (by omega), show (q * 4503599627370496 + m) / 4503599627370496 - 1 = q by omega, show 4503599627370496 + (q * 4503599627370496 + m) % 4503599627370496 = m by omega]
end Go.Proofs.Ytjjneiidggcfdaa.Fl
set_option linter.unusedVariables false
namespace Go.Proofs.Ytjjneiidggcfdaa.Fl
open Ieee

theorem cut_rne (neg : Bool) (n drop : Nat) : Toward.even.cut neg n drop = rne n drop := by
  unfold Toward.cut
  simp only [Nat.shiftLeft_eq, Nat.one_mul]
  by_cases h : drop ≤ n.log2 + 2
  · rw [Nat.min_eq_left h]
    unfold rne
    by_cases h1 : 2 ^ drop < 2 * (n % 2 ^ drop)
    · simp [h1]
    · by_cases h2 : 2 ^ drop = 2 * (n % 2 ^ drop)
      · by_cases h3 : n / 2 ^ drop % 2 = 1
        · simp [← h2, h3]
        · simp [← h2, h3]
      · simp [h1, h2]
  · have hm : min drop (n.log2 + 2) = n.log2 + 2 := by omega
    rw [hm]
    have hlt : n < 2 ^ (n.log2 + 1) := by
      by_cases h0 : n = 0
      · subst h0; exact Nat.two_pow_pos _
      · exact Nat.lt_log2_self
    have h4 : 2 ^ (n.log2 + 2) = 2 * 2 ^ (n.log2 + 1) := by rw [Nat.pow_succ 2 (n.log2 + 1)]; omega
    have h5 : 2 ^ (n.log2 + 2) ≤ 2 ^ drop := Nat.pow_le_pow_right (by omega) (by omega)
    rw [rne_small n drop (by omega)]
    have h6 : n < 2 ^ (n.log2 + 2) := by omega
    rw [Nat.div_eq_of_lt h6, Nat.mod_eq_of_lt h6]
    have h7 : ¬ 2 ^ (n.log2 + 2) < 2 * n := by omega

    simp [h7]
theorem dbl_sign : double.signWeight = 9223372036854775808 := by decide
theorem dbl_binade : double.binade = 4503599627370496 := by decide
theorem dbl_inf : double.infRung = INF := by decide
theorem dbl_word (neg : Bool) (r : Nat) : double.word neg r = wd neg r := by
  unfold Format.word wd
  rw [dbl_sign]
/-- The rung that a number is rounded to, below the lowest place. -/
theorem nearest_low (neg : Bool) (m d : Nat) : double.nearest neg m (-1074 - (d : Int)) = wd neg (cap (rnd m d)) := by
  unfold Format.nearest
  by_cases h0 : m = 0
  · subst h0; rw [rnd_zero, if_pos rfl, dbl_word]; rfl
  rw [if_neg h0]
  have hl : double.leastPlace = -1074 := by decide
  have hf : (double.fractionBits : Int) = 52 := by decide
  simp only [hl, hf]
  have h1 : max (-1074 - (d : Int) + (m.log2 : Int) - 52) (-1074) = -1074 + ((m.log2 - (d + 52) : Nat) : Int) := by omega
  rw [h1]
  have h2 : (-1074 - (d : Int) - (-1074 + ((m.log2 - (d + 52) : Nat) : Int))).toNat = 0 := by omega
  have h3 : (-1074 + ((m.log2 - (d + 52) : Nat) : Int) - (-1074 - (d : Int))).toNat = d + (m.log2 - (d + 52)) := by omega
  have h4 : (-1074 + ((m.log2 - (d + 52) : Nat) : Int) - -1074).toNat = m.log2 - (d + 52) := by omega
  rw [h2, h3, h4, Nat.shiftLeft_zero, cut_rne, dbl_word, dbl_binade, dbl_inf]
  unfold cap rnd
  exact congrArg _ rfl
theorem nearest_high (neg : Bool) (m k : Nat) : double.nearest neg m (-1074 + (k : Int)) = wd neg (cap (rnd (m * 2 ^ k) 0)) := by
  unfold Format.nearest
  by_cases h0 : m = 0
  · subst h0; rw [Nat.zero_mul, rnd_zero, if_pos rfl, dbl_word]; rfl
  rw [if_neg h0]
  have hl : double.leastPlace = -1074 := by decide
  have hf : (double.fractionBits : Int) = 52 := by decide
  simp only [hl, hf]
  have h1 : max (-1074 + (k : Int) + (m.log2 : Int) - 52) (-1074) = -1074 + ((m.log2 + k - 52 : Nat) : Int) := by omega
  rw [h1]
  have hx : rnd (m * 2 ^ k) 0 = (m.log2 + k - 52) * 4503599627370496 + rne (m * 2 ^ k) (m.log2 + k - 52) := by
    unfold rnd
    rw [log2_mul m k h0, Nat.zero_add, Nat.zero_add]
  have h4 : (-1074 + ((m.log2 + k - 52 : Nat) : Int) - -1074).toNat = m.log2 + k - 52 := by omega
  rw [h4, hx, cut_rne]
  have key : rne (m <<< (-1074 + (k : Int) - (-1074 + ((m.log2 + k - 52 : Nat) : Int))).toNat) (-1074 + ((m.log2 + k - 52 : Nat) : Int) - (-1074 + (k : Int))).toNat = rne (m * 2 ^ k) (m.log2 + k - 52) := by
    generalize m.log2 + k - 52 = t
    rw [Nat.shiftLeft_eq]
    by_cases ht : t ≤ k
    · have e1 : (-1074 + (k : Int) - (-1074 + (t : Int))).toNat = k - t := by omega
      have e2 : (-1074 + (t : Int) - (-1074 + (k : Int))).toNat = 0 := by omega
      rw [e1, e2, rne_d0]
      obtain ⟨j, rfl⟩ : ∃ j, k = j + t := ⟨k - t, by omega⟩
      rw [show j + t - t = j by omega, Nat.pow_add, ← Nat.mul_assoc, rne_mul]
    · have e1 : (-1074 + (k : Int) - (-1074 + (t : Int))).toNat = 0 := by omega
      have e2 : (-1074 + (t : Int) - (-1074 + (k : Int))).toNat = t - k := by omega
      rw [e1, e2, Nat.pow_zero, Nat.mul_one]
      have := rne_shift m (t - k) k
      rw [show t - k + k = t by omega] at this
      exact this.symm
  rw [key, dbl_word, dbl_binade, dbl_inf]
  unfold cap
  exact congrArg _ rfl
theorem nearest_scl (neg : Bool) (m : Nat) (p : Int) : double.nearest neg m p = wd neg (scl m (p + 1074)) := by
  unfold scl
  by_cases h : 0 ≤ p + 1074
  · rw [if_pos h]
    have := nearest_high neg m (p + 1074).toNat
    rw [show (-1074 + ((p + 1074).toNat : Int)) = p by omega] at this
    exact this
  · rw [if_neg h]
    have := nearest_low neg m (-(p + 1074)).toNat
    rw [show (-1074 - ((-(p + 1074)).toNat : Int)) = p by omega] at this
    exact this

/-! ### How far it is off. -/
theorem rne_err (n d : Nat) : 2 * (rne n d * 2 ^ d) ≤ 2 * n + 2 ^ d ∧ 2 * n ≤ 2 * (rne n d * 2 ^ d) + 2 ^ d := by
  have e := Nat.div_add_mod n (2 ^ d)
  have hp : 0 < 2 ^ d := Nat.two_pow_pos d
  have hr : n % 2 ^ d < 2 ^ d := Nat.mod_lt _ hp
  unfold rne
  rw [Nat.mul_comm (2 ^ d) (n / 2 ^ d)] at e
  split
  · rename_i h
    rw [Nat.add_mul, Nat.one_mul]
    generalize n / 2 ^ d * 2 ^ d = q at *
    generalize n % 2 ^ d = r at *
    generalize 2 ^ d = p at *
    omega
  · rename_i h
    rw [Nat.add_zero]
    generalize n / 2 ^ d * 2 ^ d = q at *
    generalize n % 2 ^ d = r at *
    generalize 2 ^ d = p at *
    omega
/-- How great the nearest rung is. -/
theorem mag_rnd (N d : Nat) : mag (rnd N d) = rne N (d + (N.log2 - (d + 52))) * 2 ^ (N.log2 - (d + 52)) := by
  by_cases h0 : N = 0
  · subst h0; rw [rnd_zero, rne_zero, mag_zero]; simp
  unfold rnd
  obtain ⟨t, ht⟩ : ∃ t, N.log2 - (d + 52) = t := ⟨_, rfl⟩
  rw [ht]
  have hp : 0 < 2 ^ (d + t) := Nat.two_pow_pos _
  have hhi : N / 2 ^ (d + t) < 9007199254740992 := by
    rw [Nat.div_lt_iff_lt_mul hp, show (9007199254740992 : Nat) = 2 ^ 53 by rfl, ← Nat.pow_add]
    exact Nat.lt_of_lt_of_le Nat.lt_log2_self (Nat.pow_le_pow_right (by omega) (by omega))
  have hr := rne_le N (d + t)
  by_cases ht0 : t = 0
  · subst ht0
    rw [Nat.zero_mul, Nat.zero_add, Nat.pow_zero, Nat.mul_one]
    by_cases he : rne N (d + 0) = 9007199254740992
    · rw [he]
      have := mag_place (m := 4503599627370496) (q := 1) (by omega) (by omega)
      rw [show 9007199254740992 = 1 * 4503599627370496 + 4503599627370496 by omega, this]
    · exact mag_small (by omega)
  · have hlo : 4503599627370496 ≤ N / 2 ^ (d + t) := by
      rw [Nat.le_div_iff_mul_le hp, show (4503599627370496 : Nat) = 2 ^ 52 by rfl, ← Nat.pow_add]
      exact Nat.le_trans (Nat.pow_le_pow_right (by omega) (by omega)) (Nat.log2_self_le h0)
    by_cases he : rne N (d + t) = 9007199254740992
    · rw [he]
      have := mag_place (m := 4503599627370496) (q := t + 1) (by omega) (by omega)
      rw [show t * 4503599627370496 + 9007199254740992 = (t + 1) * 4503599627370496 + 4503599627370496 by omega, this, Nat.pow_succ]
      omega
    · exact mag_place (by omega) (by omega)
/-- The nearest rung is no farther off than 2^-53 of the number, or half a unit. -/
theorem rnd_err (N d : Nat) : 9007199254740992 * (mag (rnd N d) * 2 ^ d) ≤ 9007199254740992 * N + max N (4503599627370496 * 2 ^ d) ∧ 9007199254740992 * N ≤ 9007199254740992 * (mag (rnd N d) * 2 ^ d) + max N (4503599627370496 * 2 ^ d) := by
  rw [mag_rnd]
  obtain ⟨t, ht⟩ : ∃ t, N.log2 - (d + 52) = t := ⟨_, rfl⟩
  rw [ht]
  have h1 := rne_err N (d + t)
  have e1 : rne N (d + t) * 2 ^ t * 2 ^ d = rne N (d + t) * 2 ^ (d + t) := by rw [Nat.mul_assoc, ← Nat.pow_add, Nat.add_comm t d]
  rw [e1]
  have h2 : 4503599627370496 * 2 ^ (d + t) ≤ max N (4503599627370496 * 2 ^ d) := by
    by_cases ht0 : t = 0
    · subst ht0; exact Nat.le_max_right _ _
    · have h0 : N ≠ 0 := by
        rintro rfl
        simp at ht; omega
      refine Nat.le_trans ?_ (Nat.le_max_left _ _)
      rw [show (4503599627370496 : Nat) = 2 ^ 52 by rfl, ← Nat.pow_add]
      exact Nat.le_trans (Nat.pow_le_pow_right (by omega) (by omega)) (Nat.log2_self_le h0)
  generalize rne N (d + t) * 2 ^ (d + t) = a at *
  generalize 2 ^ (d + t) = p at *
  generalize max N (4503599627370496 * 2 ^ d) = b at *
  omega
/-- A whole number of units: no farther off than 2^-53 of it. -/
theorem rnd_err0 (N : Nat) : 9007199254740992 * mag (rnd N 0) ≤ 9007199254740992 * N + N ∧ 9007199254740992 * N ≤ 9007199254740992 * mag (rnd N 0) + N := by
  by_cases h : N < 4503599627370496
  · have hl : N.log2 - (0 + 52) = 0 := by
      by_cases h0 : N = 0
      · subst h0; rfl
      · have : N.log2 < 52 := (Nat.log2_lt h0).2 (by omega)
        omega
    have e : mag (rnd N 0) = N := by
      rw [mag_rnd, hl, rne_d0, Nat.pow_zero, Nat.mul_one]
    rw [e]; omega
  · have := rnd_err N 0
    rw [Nat.pow_zero, Nat.mul_one, Nat.mul_one, Nat.max_eq_left (by omega)] at this
    exact this
end Go.Proofs.Ytjjneiidggcfdaa.Fl
set_option linter.unusedVariables false
namespace Go.Proofs.Ytjjneiidggcfdaa.Fl
open Ieee

theorem scl_whole (N : Nat) : scl N 0 = cap (rnd N 0) := by
  unfold scl
  rw [if_pos (Int.le_refl 0)]
  simp
theorem scl_down (N d : Nat) (hd : 0 < d) : scl N (-(d : Int)) = cap (rnd N d) := by
  unfold scl
  rw [if_neg (by omega)]
  congr 2
  omega
theorem add_fin {x y : Nat} (hx : rung x < INF) (hy : rung y < INF) :
    ∃ s, double.add x y = some (wd s (cap (rnd (val x + val y).natAbs 0))) ∧ (val x + val y ≠ 0 → s = decide (val x + val y < 0)) := by
  obtain ⟨m, u, e, hm⟩ := read_fin hx
  obtain ⟨n, v, e2, hn⟩ := read_fin hy
  obtain ⟨k, hk⟩ : ∃ k, min u v = k := ⟨_, rfl⟩
  have hb : min (-1074 + (u : Int)) (-1074 + (v : Int)) = -1074 + (k : Int) := by omega
  have hu : (-1074 + (u : Int) - (-1074 + (k : Int))).toNat + k = u := by omega
  have hv : (-1074 + (v : Int) - (-1074 + (k : Int))).toNat + k = v := by omega
  obtain ⟨T, hT⟩ : ∃ T, signed (sg x) m (-1074 + (u : Int) - (-1074 + (k : Int))).toNat + signed (sg y) n (-1074 + (v : Int) - (-1074 + (k : Int))).toNat = T := ⟨_, rfl⟩
  have hv1 : signed (sg x) m u = val x := by rw [signed_val hm]; rfl
  have hv2 : signed (sg y) n v = val y := by rw [signed_val hn]; rfl
  have hTv : T * ((2 ^ k : Nat) : Int) = val x + val y := by
    rw [← hT, Int.add_mul, signed_pow, signed_pow, hu, hv, hv1, hv2]
  have hp : 0 < ((2 ^ k : Nat) : Int) := by have := Nat.two_pow_pos k; omega
  have habs : T.natAbs * 2 ^ k = (val x + val y).natAbs := by rw [← hTv, Int.natAbs_mul, Int.natAbs_natCast]
  have hneg : (T < 0) ↔ (val x + val y < 0) := by
    rw [← hTv]
    constructor
    · intro h; exact Int.mul_neg_of_neg_of_pos h hp
    · intro h
      rcases Int.lt_or_le T 0 with h1 | h1
      · exact h1
      · have := Int.mul_nonneg h1 (Int.le_of_lt hp); omega
  have hzero : T = 0 → val x + val y = 0 := by rintro rfl; rw [← hTv]; simp
  refine ⟨(if T = 0 then (sg x && sg y) else decide (T < 0)), ?_, ?_⟩
  · unfold Format.add
    rw [e, e2]
    simp only [Datum.sum, Option.map_some, Format.write, hb, hT]
    rw [nearest_scl, show (-1074 + (k : Int) + 1074) = ((k : Int) + 0) by omega, ← scl_shift, habs, scl_whole]
  · intro h0
    have : T ≠ 0 := fun h => h0 (hzero h)
    rw [if_neg this]
    exact decide_eq_decide.2 hneg
theorem mul_fin {x y : Nat} (hx : rung x < INF) (hy : rung y < INF) :
    double.mul x y = some (wd (sg x ^^ sg y) (cap (rnd (mag (rung x) * mag (rung y)) 1074))) := by
  obtain ⟨m, u, e, hm⟩ := read_fin hx
  obtain ⟨n, v, e2, hn⟩ := read_fin hy
  unfold Format.mul
  rw [e, e2]
  simp only [Datum.product, Option.map_some, Format.write]
  have h1 : scl (m * n) (-1074 + (u : Int) + (-1074 + (v : Int)) + 1074) = cap (rnd (mag (rung x) * mag (rung y)) 1074) := by
    rw [← scl_down _ 1074 (by omega), ← hm, ← hn, show m * 2 ^ u * (n * 2 ^ v) = m * n * 2 ^ (u + v) by rw [Nat.pow_add]; simp only [Nat.mul_assoc, Nat.mul_left_comm], scl_shift]
    congr 1
    omega
  rw [nearest_scl, h1]
end Go.Proofs.Ytjjneiidggcfdaa.Fl
set_option linter.unusedVariables false
namespace Go.Proofs.Ytjjneiidggcfdaa.Fl
open Ieee

theorem val_wd (s : Bool) {r : Nat} (h : r < 9223372036854775808) : val (wd s r) = if s then -(mag r : Int) else (mag r : Int) := by
  unfold val
  rw [sg_wd s h, rung_wd s h]
theorem cap_lt (r : Nat) : cap r < 9223372036854775808 := by
  have := cap_le r
  have := INF_val
  omega
theorem cap_fin {r : Nat} (h : cap r < INF) : cap r = r := by unfold cap at *; omega
theorem add_err {x y r : Nat} (hx : rung x < INF) (hy : rung y < INF) (h : double.add x y = some r) (hr : rung r < INF) :
    9007199254740992 * (val r - (val x + val y)).natAbs ≤ (val x + val y).natAbs := by
  obtain ⟨s, h1, h2⟩ := add_fin hx hy
  rw [h] at h1
  obtain rfl : r = _ := Option.some.inj h1
  rw [rung_wd s (cap_lt _)] at hr
  rw [val_wd s (cap_lt _), cap_fin hr]
  generalize val x + val y = S at *
  have he := rnd_err0 S.natAbs
  generalize mag (rnd S.natAbs 0) = M at *
  by_cases h0 : S = 0
  · subst h0
    have hM : M = 0 := by
      have := he.1
      simp at this
      omega
    subst hM
    cases s <;> simp
  · have hs := h2 h0
    by_cases hn : S < 0
    · rw [show s = true by rw [hs]; simp [hn]]
      simp only [if_true]
      omega
    · rw [show s = false by rw [hs]; simp [hn]]
      simp only [Bool.false_eq_true, if_false]
      omega
theorem mul_err {x y r : Nat} (hx : rung x < INF) (hy : rung y < INF) (h : double.mul x y = some r) (hr : rung r < INF) :
    9007199254740992 * (val r * ((2 ^ 1074 : Nat) : Int) - val x * val y).natAbs ≤ max (val x * val y).natAbs (4503599627370496 * 2 ^ 1074) := by
  have h1 := mul_fin hx hy
  rw [h] at h1
  obtain rfl : r = _ := Option.some.inj h1
  rw [rung_wd _ (cap_lt _)] at hr
  rw [val_wd _ (cap_lt _), cap_fin hr]
  have he := rnd_err (mag (rung x) * mag (rung y)) 1074
  generalize 2 ^ 1074 = p at *
  have hxy : val x * val y = if (sg x ^^ sg y) = true then -((mag (rung x) * mag (rung y) : Nat) : Int) else ((mag (rung x) * mag (rung y) : Nat) : Int) := by
    unfold val
    cases sg x <;> cases sg y <;> simp [Int.neg_mul, Int.mul_neg]
  rw [hxy]
  generalize mag (rung x) * mag (rung y) = N at *
  obtain ⟨M, hM⟩ : ∃ M, mag (rnd N 1074) * p = M := ⟨_, rfl⟩
  have e : ∀ z : Int, z = (mag (rnd N 1074) : Int) → z * (p : Int) = (M : Int) := by rintro z rfl; rw [← hM, Int.natCast_mul]
  rw [hM] at he
  cases sg x ^^ sg y
  · simp only [Bool.false_eq_true, if_false]
    rw [e _ rfl]
    generalize 4503599627370496 * p = q at *
    omega
  · simp only [if_true]
    rw [Int.neg_mul, e _ rfl]
    generalize 4503599627370496 * p = q at *
    omega
theorem inf_word (s : Bool) : rung (double.write (.infinity s)) = INF := by
  show rung (double.word s double.infRung) = INF
  rw [dbl_word, dbl_inf, rung_wd s (by rw [INF_val]; omega)]
theorem add_back {x y r : Nat} (h : double.add x y = some r) (hr : rung r < INF) : rung x < INF ∧ rung y < INF := by
  unfold Format.add at h
  rcases Nat.lt_trichotomy (rung x) INF with hx | hx | hx
  · rcases Nat.lt_trichotomy (rung y) INF with hy | hy | hy
    · exact ⟨hx, hy⟩
    · obtain ⟨m, u, e, _⟩ := read_fin hx
      rw [e, read_inf hy] at h
      simp only [Datum.sum, Option.map_some, Option.some.injEq] at h
      rw [← h, inf_word] at hr; omega
    · obtain ⟨m, u, e, _⟩ := read_fin hx
      rw [e, read_nan hy] at h
      simp [Datum.sum] at h
  · rw [read_inf hx] at h
    rcases Nat.lt_trichotomy (rung y) INF with hy | hy | hy
    · obtain ⟨m, u, e, _⟩ := read_fin hy
      rw [e] at h
      simp only [Datum.sum, Option.map_some, Option.some.injEq] at h
      rw [← h, inf_word] at hr; omega
    · rw [read_inf hy] at h
      simp only [Datum.sum] at h
      split at h
      · simp only [Option.map_some, Option.some.injEq] at h
        rw [← h, inf_word] at hr; omega
      · simp at h
    · rw [read_nan hy] at h
      simp [Datum.sum] at h
  · rw [read_nan hx] at h
    simp [Datum.sum] at h
theorem mul_back {x y r : Nat} (h : double.mul x y = some r) (hr : rung r < INF) : rung x < INF ∧ rung y < INF := by
  unfold Format.mul at h
  rcases Nat.lt_trichotomy (rung x) INF with hx | hx | hx
  · rcases Nat.lt_trichotomy (rung y) INF with hy | hy | hy
    · exact ⟨hx, hy⟩
    · obtain ⟨m, u, e, _⟩ := read_fin hx
      rw [e, read_inf hy] at h
      simp only [Datum.product] at h
      split at h
      · simp at h
      · simp only [Option.map_some, Option.some.injEq] at h
        rw [← h, inf_word] at hr; omega
    · obtain ⟨m, u, e, _⟩ := read_fin hx
      rw [e, read_nan hy] at h
      simp [Datum.product] at h
  · rw [read_inf hx] at h
    rcases Nat.lt_trichotomy (rung y) INF with hy | hy | hy
    · obtain ⟨m, u, e, _⟩ := read_fin hy
      rw [e] at h
      simp only [Datum.product] at h
      split at h
      · simp at h
      · simp only [Option.map_some, Option.some.injEq] at h
        rw [← h, inf_word] at hr; omega
    · rw [read_inf hy] at h
      simp only [Datum.product, Option.map_some, Option.some.injEq] at h
      rw [← h, inf_word] at hr; omega
    · rw [read_nan hy] at h
      simp [Datum.product] at h
  · rw [read_nan hx] at h
    simp [Datum.product] at h
end Go.Proofs.Ytjjneiidggcfdaa.Fl
set_option linter.unusedVariables false
set_option linter.unusedSimpArgs false
set_option linter.unnecessarySimpa false
namespace Go.Proofs.Ytjjneiidggcfdaa
open Go.RowKit
attribute [local go_sem ↓] Go.wp_at_zero Go.wp_at_succ

theorem Row.get0 {w : World} {A : Option Addr} {l : List Nat} {k : Nat} (h : Row w A (f64s l)) (hk : k < l.length) : ∃ b o, A = some ⟨b, o, none⟩ ∧ w.cell? ⟨b, o + k, none⟩ = some (.float .f64 (l.getD k 0)) := by
  obtain ⟨b, o, e, _, hc⟩ := h.at_ (f64s_get l k hk)
  exact ⟨b, o, e, by rw [getD_of_lt hk]; exact hc⟩

end Go.Proofs.Ytjjneiidggcfdaa
set_option linter.unusedVariables false
set_option linter.unusedSimpArgs false
set_option linter.unnecessarySimpa false
namespace Go.Proofs.Ytjjneiidggcfdaa
open Go.RowKit
attribute [local go_sem ↓] Go.wp_at_zero Go.wp_at_succ

theorem fdy_mul (x y : Nat) : fdy x * fdy y = dy (Fl.val x * Fl.val y) (-2148) := by unfold fdy; rw [dy_mul]; rfl
end Go.Proofs.Ytjjneiidggcfdaa
set_option linter.unusedVariables false
namespace Go.Proofs.Ytjjneiidggcfdaa
open Go.RowKit

/-- Below 2^k, and a multiple of 2^-k. -/
def Sz (k : Nat) (d : Dyadic) : Prop := ∃ m : Int, d = dy m (-(k : Int)) ∧ m.natAbs < 2 ^ (2 * k)
theorem Sz.fit {k : Nat} {d : Dyadic} (h : Sz k d) (hk : k ≤ 134217720) : Fitd d := by
  obtain ⟨m, rfl, hm⟩ := h
  exact fitd_of hm (by omega) (by omega)
theorem Sz.mono {j k : Nat} {d : Dyadic} (h : Sz j d) (hk : j ≤ k) : Sz k d := by
  obtain ⟨m, rfl, hm⟩ := h
  refine ⟨m * 2 ^ (k - j), by rw [dy_pow]; congr 1; omega, ?_⟩
  have e : ((2 : Int) ^ (k - j)).natAbs = 2 ^ (k - j) := by rw [Int.natAbs_pow]; rfl
  rw [Int.natAbs_mul, e]
  have h1 : m.natAbs * 2 ^ (k - j) < 2 ^ (2 * j) * 2 ^ (k - j) := Nat.mul_lt_mul_of_pos_right hm (Nat.two_pow_pos _)
  rw [← Nat.pow_add] at h1
  exact Nat.lt_of_lt_of_le h1 (Nat.pow_le_pow_right (by omega) (by omega))
theorem Sz.add_ {k : Nat} {a b : Dyadic} (h : Sz k a) (h' : Sz k b) : Sz (k + 1) (a + b) := by
  obtain ⟨m, rfl, hm⟩ := h
  obtain ⟨n, rfl, hn⟩ := h'
  refine ⟨(m + n) * 2 ^ 1, by rw [dy_add, dy_pow]; congr 1; omega, ?_⟩
  rw [show 2 * (k + 1) = 2 * k + 2 by omega, Nat.pow_add]
  generalize 2 ^ (2 * k) = P at *
  omega
theorem Sz.add {j k n : Nat} {a b : Dyadic} (h : Sz j a) (h' : Sz k b) (hj : j < n) (hk : k < n) : Sz n (a + b) := by
  obtain ⟨n', rfl⟩ : ∃ n', n = n' + 1 := ⟨n - 1, by omega⟩
  exact (h.mono (by omega)).add_ (h'.mono (by omega))
theorem Sz.neg {k : Nat} {a : Dyadic} (h : Sz k a) : Sz k (-a) := by
  obtain ⟨m, rfl, hm⟩ := h
  exact ⟨-m, by rw [dy_neg], by omega⟩
theorem Sz.sub {j k n : Nat} {a b : Dyadic} (h : Sz j a) (h' : Sz k b) (hj : j < n) (hk : k < n) : Sz n (a - b) := Sz.add h h'.neg hj hk
theorem Sz.abs {k : Nat} {a : Dyadic} (h : Sz k a) : Sz k (dabs a) := by
  obtain ⟨m, rfl, hm⟩ := h
  exact ⟨m.natAbs, by rw [dabs_dy], by omega⟩
theorem Sz.mul {j k n : Nat} {a b : Dyadic} (h : Sz j a) (h' : Sz k b) (hn : j + k ≤ n) : Sz n (a * b) := by
  refine Sz.mono (j := j + k) ?_ hn
  obtain ⟨m, rfl, hm⟩ := h
  obtain ⟨q, rfl, hq⟩ := h'
  refine ⟨m * q, by rw [dy_mul]; congr 1; omega, ?_⟩
  rw [Int.natAbs_mul, show 2 * (j + k) = 2 * j + 2 * k by omega, Nat.pow_add]
  exact Nat.mul_lt_mul'' hm hq
theorem Sz.int {z : Int} {k : Nat} (h : z.natAbs < 2 ^ k) : Sz k (dy z 0) := by
  refine ⟨z * 2 ^ k, by rw [dy_pow]; congr 1; omega, ?_⟩
  have e : ((2 : Int) ^ k).natAbs = 2 ^ k := by rw [Int.natAbs_pow]; rfl
  rw [Int.natAbs_mul, e, show 2 * k = k + k by omega, Nat.pow_add]
  exact Nat.mul_lt_mul_of_pos_right h (Nat.two_pow_pos _)
theorem Sz.pow (s : Int) : Sz (s.natAbs + 1) (dy 1 s) := by
  obtain ⟨t, ht⟩ : ∃ t : Nat, (t : Int) = s + ((s.natAbs + 1 : Nat) : Int) := ⟨(s + ((s.natAbs + 1 : Nat) : Int)).toNat, by omega⟩
  refine ⟨1 * 2 ^ t, by rw [dy_pow]; congr 1; omega, ?_⟩
  have e : ((2 : Int) ^ t).natAbs = 2 ^ t := by rw [Int.natAbs_pow]; rfl
  rw [Int.natAbs_mul, e, show (1 : Int).natAbs = 1 from rfl, Nat.one_mul]
  exact Nat.pow_lt_pow_right (by omega) (by omega)
theorem Sz.shift {j n : Nat} {a : Dyadic} (h : Sz j a) (s : Int) (hn : j + s.natAbs + 1 ≤ n) : Sz n (a * dy 1 s) := h.mul (Sz.pow s) (by omega)
theorem Sz.float {b : Nat} (h : Fl.rung b < Fl.INF) : Sz 1074 (fdy b) := by
  obtain ⟨K, hK⟩ : ∃ K, K = 2098 := ⟨_, rfl⟩
  obtain ⟨J, hJ⟩ : ∃ J, J = 1074 := ⟨_, rfl⟩
  rw [← hJ]
  refine ⟨Fl.val b, by unfold fdy; congr 1; omega, ?_⟩
  exact Nat.lt_of_lt_of_le (val_lt_big K hK h) (Nat.pow_le_pow_right (by omega) (by omega))
theorem Sz.zero (k : Nat) : Sz k 0 := ⟨0, by rw [dy_zero], Nat.two_pow_pos _⟩
/-- A box that a pointer points to, made behind lo. -/
def NewB (W : World) (v : Value) (lo : Nat) : Prop := ∃ (g : Nat) (x0 x1 x2 : Value), v = .pointer (some ⟨g, 0, none⟩) ∧ Blk W g 34 #[x0, x1, x2] ∧ lo ≤ g
theorem NewB.below {W W' : World} {v : Value} {lo : Nat} (h : NewB W v lo) (hb : Below W.heap.size W W') : NewB W' v lo := by
  obtain ⟨g, x0, x1, x2, h1, h2, h3⟩ := h
  exact ⟨g, x0, x1, x2, h1, h2.next hb, h3⟩
/-- A pointer to a box that holds the number. -/
def BxP (W : World) (v : Value) (lo : Nat) (d : Dyadic) : Prop := ∃ g : Nat, v = .pointer (some ⟨g, 0, none⟩) ∧ Bx W g d ∧ lo ≤ g
theorem BxP.below {W W' : World} {v : Value} {lo : Nat} {d : Dyadic} (h : BxP W v lo d) (hb : Below W.heap.size W W') : BxP W' v lo d := by
  obtain ⟨g, h1, h2, h3⟩ := h
  exact ⟨g, h1, h2.below hb, h3⟩
end Go.Proofs.Ytjjneiidggcfdaa
set_option linter.unusedVariables false
namespace Go.Proofs.Ytjjneiidggcfdaa.Fl
open Ieee

theorem rne_near (n d q : Nat) : (((rne n d * 2 ^ d : Nat) : Int) - (n : Int)).natAbs ≤ (((q * 2 ^ d : Nat) : Int) - (n : Int)).natAbs := by
  have e := Nat.div_add_mod n (2 ^ d)
  have hp : 0 < 2 ^ d := Nat.two_pow_pos d
  have hr : n % 2 ^ d < 2 ^ d := Nat.mod_lt _ hp
  rw [Nat.mul_comm (2 ^ d) (n / 2 ^ d)] at e
  have hq : q * 2 ^ d ≤ n / 2 ^ d * 2 ^ d ∨ n / 2 ^ d * 2 ^ d + 2 ^ d ≤ q * 2 ^ d := by
    rcases Nat.lt_or_ge (n / 2 ^ d) q with h | h
    · right
      have := Nat.mul_le_mul_right (2 ^ d) (show n / 2 ^ d + 1 ≤ q from h)
      rw [Nat.add_mul, Nat.one_mul] at this
      exact this
    · exact .inl (Nat.mul_le_mul_right _ h)
  unfold rne
  split
  · rename_i h
    rw [Nat.add_mul, Nat.one_mul]
    generalize n / 2 ^ d * 2 ^ d = a at *
    generalize n % 2 ^ d = r at *
    generalize q * 2 ^ d = b at *
    generalize 2 ^ d = p at *
    omega
  · rename_i h
    rw [Nat.add_zero]
    generalize n / 2 ^ d * 2 ^ d = a at *
    generalize n % 2 ^ d = r at *
    generalize q * 2 ^ d = b at *
    generalize 2 ^ d = p at *
    omega
theorem rnd_near (N r : Nat) : ((mag (rnd N 0) : Int) - (N : Int)).natAbs ≤ ((mag r : Int) - (N : Int)).natAbs := by
  rw [mag_rnd]
  obtain ⟨t, ht⟩ : ∃ t, N.log2 - (0 + 52) = t := ⟨_, rfl⟩
  rw [ht, Nat.zero_add]
  by_cases h0 : t = 0
  · subst h0
    rw [rne_d0]
    simp
  · have hN : N ≠ 0 := by
      rintro rfl
      simp at ht; omega
    have hlo := Nat.log2_self_le hN
    rcases Nat.lt_or_ge (mag r) (2 ^ N.log2) with hlt | hge
    · have h1 := rne_near N t (2 ^ 52)
      have e : 2 ^ 52 * 2 ^ t = 2 ^ N.log2 := by rw [← Nat.pow_add]; congr 1; omega
      rw [e] at h1
      generalize rne N t * 2 ^ t = a at *
      generalize 2 ^ N.log2 = b at *
      omega
    · have hm : ∃ q, mag r = q * 2 ^ t := by
        unfold mag at hge ⊢
        split at hge
        · exfalso
          have : 2 ^ 53 ≤ 2 ^ N.log2 := Nat.pow_le_pow_right (by omega) (by omega)
          have e : 2 ^ 53 = 9007199254740992 := by decide
          omega
        · rename_i h
          rw [if_neg h]
          obtain ⟨k, hk⟩ : ∃ k, r / 4503599627370496 - 1 = k := ⟨_, rfl⟩
          rw [hk] at hge ⊢
          have e53 : 2 ^ 53 = 9007199254740992 := by decide
          have h1 : 4503599627370496 + r % 4503599627370496 < 2 ^ 53 := by omega
          have h2 : (4503599627370496 + r % 4503599627370496) * 2 ^ k < 2 ^ 53 * 2 ^ k := Nat.mul_lt_mul_of_pos_right h1 (Nat.two_pow_pos k)
          rw [← Nat.pow_add] at h2
          have h3 : N.log2 < 53 + k := by
            rcases Nat.lt_or_ge N.log2 (53 + k) with h | h
            · exact h
            · have := Nat.pow_le_pow_right (show 0 < 2 by omega) h
              omega
          refine ⟨(4503599627370496 + r % 4503599627370496) * 2 ^ (k - t), ?_⟩
          rw [Nat.mul_assoc, ← Nat.pow_add]
          congr 2; omega
      obtain ⟨q, hq⟩ := hm
      rw [hq]
      exact rne_near N t q
/-- No farther off than the one that was added. -/
theorem add_near {x y r : Nat} (hx : rung x < INF) (hy : rung y < INF) (h : double.add x y = some r) (hr : rung r < INF) :
    (val r - (val x + val y)).natAbs ≤ (val x).natAbs := by
  obtain ⟨s, h1, h2⟩ := add_fin hx hy
  rw [h] at h1
  obtain rfl : r = _ := Option.some.inj h1
  rw [rung_wd s (cap_lt _)] at hr
  rw [val_wd s (cap_lt _), cap_fin hr]
  have hn := rnd_near (val x + val y).natAbs (rung y)
  have hyv : (val y).natAbs = mag (rung y) := by unfold val; split <;> omega
  have e0 := rnd_err0 (val x + val y).natAbs
  generalize mag (rnd (val x + val y).natAbs 0) = M at *
  generalize mag (rung y) = Y at *
  by_cases h0 : val x + val y = 0
  · have hM : M = 0 := by
      have := e0.1
      rw [h0] at this
      simp at this
      omega
    subst hM
    rw [h0]
    cases s <;> simp
  · have hs := h2 h0
    by_cases hneg : val x + val y < 0
    · rw [show s = true by rw [hs]; simp [hneg]]
      simp only [if_true]
      omega
    · rw [show s = false by rw [hs]; simp [hneg]]
      simp only [Bool.false_eq_true, if_false]
      omega
theorem axpy_lin {P Y e d t K : Nat} (h1 : 9007199254740992 * d ≤ Y + P + e) (h2 : 9007199254740992 * e ≤ max P (4503599627370496 * K)) (h3 : d ≤ Y) (ht : t ≤ d + e) : 4503599627370496 * t ≤ P + Y + 4503599627370496 * K := by
  omega
/-- A product added to a number: no farther off than 2^-52 of both, and 2^-1074 (in units of 2^-2148). -/
theorem axpy_err {a x y p r : Nat} (h1 : double.mul a x = some p) (h2 : double.add y p = some r) (hr : rung r < INF) :
    4503599627370496 * (val r * ((2 ^ 1074 : Nat) : Int) - val a * val x - val y * ((2 ^ 1074 : Nat) : Int)).natAbs ≤ (val a * val x).natAbs + (val y).natAbs * 2 ^ 1074 + 4503599627370496 * 2 ^ 1074 := by
  obtain ⟨hfy, hfp⟩ := add_back h2 hr
  obtain ⟨hfa, hfx⟩ := mul_back h1 hfp
  have e1 := mul_err hfa hfx h1 hfp
  have e2 := add_err hfy hfp h2 hr
  have e3 := add_near hfy hfp h2 hr
  generalize val r = R at *
  generalize val p = q at *
  generalize val y = Y at *
  generalize val a * val x = P at *
  generalize 2 ^ 1074 = K at *
  have hd : R * (K : Int) - P - Y * (K : Int) = (R - (Y + q)) * (K : Int) + (q * (K : Int) - P) := by
    rw [Int.sub_mul, Int.add_mul]; omega
  have hcK : ((R - (Y + q)) * (K : Int)).natAbs = (R - (Y + q)).natAbs * K := by rw [Int.natAbs_mul, Int.natAbs_natCast]
  have hsK : ((Y + q) * (K : Int)).natAbs = (Y + q).natAbs * K := by rw [Int.natAbs_mul, Int.natAbs_natCast]
  have hyK : (Y * (K : Int)).natAbs = Y.natAbs * K := by rw [Int.natAbs_mul, Int.natAbs_natCast]
  have e4 := Nat.mul_le_mul_right K e2
  rw [Nat.mul_assoc, ← hcK, ← hsK, Int.add_mul] at e4
  have e5 := Nat.mul_le_mul_right K e3
  rw [← hcK, ← hyK] at e5
  rw [hd, ← hyK]
  clear hd hcK hsK hyK e2 e3
  generalize (R - (Y + q)) * (K : Int) = D at *
  generalize q * (K : Int) = qk at *
  generalize Y * (K : Int) = yk at *
  exact axpy_lin (e := (qk - P).natAbs) (d := D.natAbs) (by omega) e1 e5 (by omega)
end Go.Proofs.Ytjjneiidggcfdaa.Fl
set_option linter.unusedVariables false
namespace Go.Proofs.Ytjjneiidggcfdaa
open Go.RowKit
attribute [local go_sem ↓] ib_andNot_sign ib_and_frac ib_and_15 ib_and_1 ib_and_sign ib_and_inf ib_or

theorem all_take (zs : List Nat) (k : Nat) (h : k < zs.length) : (zs.take (k + 1)).all Fl.fin = ((zs.take k).all Fl.fin && Fl.fin zs[k]) := by
  rw [List.take_succ_eq_append_getElem h, List.all_append]; simp

theorem all_of_take {zs : List Nat} {j : Nat} (h : (zs.take j).all Fl.fin = false) : zs.all Fl.fin = false := by
  rw [← List.take_append_drop j zs, List.all_append, h]; rfl

end Go.Proofs.Ytjjneiidggcfdaa
set_option linter.unusedVariables false
set_option linter.unusedSimpArgs false
namespace Go.Proofs.Ytjjneiidggcfdaa
open Go.RowKit
attribute [local go_sem ↓] Go.wp_at_zero Go.wp_at_succ

theorem kind_fin2 (z : Nat) : (kindOf z != 0) = !Fl.fin z := by
  unfold kindOf Fl.fin
  rw [Bool.eq_iff_iff]
  simp only [bne_iff_ne, ne_eq, Bool.not_eq_true', decide_eq_false_iff_not]
  split
  · simp [*]
  · split <;> simp [*]
set_option maxHeartbeats 1000000 in
theorem rfin_any (A : Option Addr) (n c : Nat) (l : List Nat) (w : World) (hA : Row w A (f64s l)) (hW : Wds l) (hl : l.length = n) (hn : n < 1048576) :
    Calls Try.prog 9 #[.slice A n c] w fun e w' => e = .returned (.bool (l.all Fl.fin)) ∧ w = w' := by
  have HA := Lib.hid hA
  have HW := Lib.hid hW
  have Hl := Lib.hid hl
  clear hA hW hl
  go_enter Try.func9, Try.ntmps9
  go_wp2_with fail
  go_loop [3] (fun i => ∃ k : Nat, k ≤ n ∧ i = .int .i64 k ∧ (l.take k).all Fl.fin = true) (fun i => n - (intOf i).toNat)
  case atStart => exact ⟨0, Nat.zero_le _, rfl, by simp⟩
  case round =>
    obtain ⟨k, hk, rfl, ha⟩ := hrel
    have HAl := Lib.hid ha
    clear ha
    by_cases hlt : k < n
    · have hkl : k < l.length := by rw [Hl.out]; exact hlt
      obtain ⟨b, o, rfl, hc⟩ := HA.out.get0 hkl
      have hw := HW.out.at_ k hkl
      have hstep := all_take l k hkl
      rw [HAl.out] at hstep
      rw [getD_of_lt hkl] at hc
      have hkd := kind_fin2 l[k]
      obtain ⟨z, hz⟩ : ∃ z, l[k] = z := ⟨_, rfl⟩
      rw [hz] at hc hw hstep hkd
      have HS := Lib.hid hstep
      have HX := Lib.hid hw
      have hqc : (k : Int) < (n : Int) := by omega
      have hk1 : k + 1 ≤ 1048576 := by omega
      clear hstep hw hz hkl
      cases hf : Fl.fin z
      · rw [hf] at hkd
        have HF := Lib.hid hf
        clear hf
        go_wp2_with fail
        refine (parts_any z _ HX.out).mono ?_
        rintro e w' ⟨rfl, rfl⟩
        go_wp2_with fail
        go_ret
        refine ⟨ret_bool ?_, rfl⟩
        have h1 := HS.out
        rw [HF.out] at h1
        exact (all_of_take h1).symm
      · rw [hf] at hkd
        have HF := Lib.hid hf
        clear hf
        go_wp2_with fail
        refine (parts_any z _ HX.out).mono ?_
        rintro e w' ⟨rfl, rfl⟩
        go_wp2_with fail
        go_round
        case rel => exact ⟨k + 1, by omega, by go_num, by rw [HS.out, HF.out]; rfl⟩
        case measure => simp [intOf]; omega
    · obtain rfl : k = n := by omega
      have hqc : ¬ (k : Int) < (k : Int) := by omega
      go_wp2_with fail
      go_ret
      exact ⟨ret_bool (by rw [← HAl.out, List.take_of_length_le (by have := Hl.out; omega)]), rfl⟩
end Go.Proofs.Ytjjneiidggcfdaa
set_option linter.unusedVariables false
namespace Go.Proofs.Ytjjneiidggcfdaa
open Go.RowKit
attribute [local go_sem ↓] ib_andNot_sign ib_and_frac ib_and_15 ib_and_1 ib_and_sign ib_and_inf ib_or

/-- After some doublings of m, each of which took one from e. -/
def Up1 (m : Nat) (e : Int) (M : Nat) (E : Int) : Prop := ∃ j : Nat, M = m * 2 ^ j ∧ E = e - j ∧ (j = 0 ∨ (M < 9007199254740992 ∧ -1074 ≤ E))
theorem Up1.start (m : Nat) (e : Int) : Up1 m e m e := ⟨0, by simp, by omega, .inl rfl⟩
theorem Up1.step {m : Nat} {e : Int} {M : Nat} {E : Int} (h : Up1 m e M E) (h1 : M < 4503599627370496) (h2 : -1074 < E) : Up1 m e (M * 2) (E - 1) := by
  obtain ⟨j, rfl, rfl, _⟩ := h
  exact ⟨j + 1, by rw [Nat.pow_succ, Nat.mul_assoc], by omega, .inr ⟨by omega, by omega⟩⟩
theorem Up1.scl {m : Nat} {e : Int} {M : Nat} {E : Int} (h : Up1 m e M E) : Fl.scl m (e + 1074) = Fl.scl M (E + 1074) := by
  obtain ⟨j, rfl, rfl, _⟩ := h
  rw [Fl.scl_shift]; congr 1; omega

/-- The last digit that was cut off, and whether one behind it was 1. -/
def lostB (m i : Nat) : Bool := if i = 0 then false else decide (m % 2 ^ (i - 1) ≠ 0)
def halfB (m i : Nat) : Bool := if i = 0 then false else decide (m / 2 ^ (i - 1) % 2 = 1)
def Down2 (m : Nat) (e : Int) (M : Nat) (E : Int) (lost half : Bool) : Prop :=
  ∃ i : Nat, M = m / 2 ^ i ∧ E = e + i ∧ lost = lostB m i ∧ half = halfB m i ∧ (i = 0 ∨ 4503599627370496 ≤ M ∨ E ≤ -1074)
theorem Down2.start (m : Nat) (e : Int) : Down2 m e m e false false := ⟨0, by simp, by omega, rfl, rfl, .inl rfl⟩
theorem Down2.step {m : Nat} {e : Int} {M : Nat} {E : Int} {lost half : Bool} (h : Down2 m e M E lost half) (hc : 9007199254740992 ≤ M ∨ E < -1074) :
    Down2 m e (M / 2) (E + 1) (lost || half) (decide (M % 2 = 1)) := by
  obtain ⟨i, rfl, rfl, rfl, rfl, _⟩ := h
  refine ⟨i + 1, by rw [Nat.pow_succ, Nat.div_div_eq_div_mul], by omega, ?_, ?_, ?_⟩
  · unfold lostB halfB
    rw [if_neg (show ¬ i + 1 = 0 by omega), show i + 1 - 1 = i by omega]
    by_cases h0 : i = 0
    · subst h0; simp [Nat.mod_one]
    · rw [if_neg h0, if_neg h0]
      obtain ⟨k, rfl⟩ : ∃ k, i = k + 1 := ⟨i - 1, by omega⟩
      rw [show k + 1 - 1 = k by omega, Nat.mod_pow_succ]
      have hp : 0 < 2 ^ k := Nat.two_pow_pos k
      rw [Bool.eq_iff_iff]
      simp only [Bool.or_eq_true, decide_eq_true_eq]
      have hb : m / 2 ^ k % 2 = 0 ∨ m / 2 ^ k % 2 = 1 := by omega
      rcases hb with hb | hb
      · rw [hb]; simp
      · rw [hb]; simp
  · unfold halfB
    rw [if_neg (show ¬ i + 1 = 0 by omega), show i + 1 - 1 = i by omega]
  · rcases hc with hc | hc
    · exact .inr (.inl (by omega))
    · exact .inr (.inr (by omega))
/-- Rounded: one more if the last digit that was cut off was 1, and one behind it, or the last that is kept. -/
theorem rne_lost (m i : Nat) : Fl.rne m i = m / 2 ^ i + if halfB m i = true ∧ (lostB m i = true ∨ m / 2 ^ i % 2 = 1) then 1 else 0 := by
  by_cases h0 : i = 0
  · subst h0; rw [Fl.rne_d0]; simp [halfB]
  · rw [rne_half m i (by omega)]
    congr 1
    unfold halfB lostB
    rw [if_neg h0, if_neg h0]
    obtain ⟨k, rfl⟩ : ∃ k, i = k + 1 := ⟨i - 1, by omega⟩
    rw [show k + 1 - 1 = k by omega, Nat.mod_pow_succ]
    have hp : 0 < 2 ^ k := Nat.two_pow_pos k
    have hm := Nat.mod_lt m hp
    simp only [decide_eq_true_eq]
    have hb : m / 2 ^ k % 2 = 0 ∨ m / 2 ^ k % 2 = 1 := by omega
    generalize m / 2 ^ (k + 1) % 2 = z
    rcases hb with hb | hb
    · rw [hb, if_neg (by simp; omega), if_neg (by omega)]
    · rw [hb]
      by_cases h1 : m % 2 ^ k = 0
      · by_cases h2 : z = 1
        · rw [if_pos (by simp; omega), if_pos ⟨rfl, .inr h2⟩]
        · rw [if_neg (by simp; omega), if_neg (by omega)]
      · rw [if_pos (by simp; omega), if_pos ⟨rfl, .inl h1⟩]

/-- The rung that Make comes to, out of what its loops leave. -/
theorem Down2.scl {m : Nat} {e : Int} {M : Nat} {E : Int} {lost half : Bool} (h : Down2 m e M E lost half) (h1 : M < 9007199254740992) (h2 : -1074 ≤ E) (h3 : 4503599627370496 ≤ m ∨ e ≤ -1074) :
    Fl.scl m (e + 1074) = Fl.cap ((E + 1074).toNat * 4503599627370496 + (M + if half = true ∧ (lost = true ∨ M % 2 = 1) then 1 else 0)) ∧ (4503599627370496 ≤ M ∨ E = -1074) := by
  obtain ⟨i, rfl, rfl, rfl, rfl, hl⟩ := h
  have hq : 4503599627370496 ≤ m / 2 ^ i ∨ (e + i + 1074).toNat = 0 := by
    rcases hl with rfl | hl | hl
    · rcases h3 with h3 | h3
      · left; simpa using h3
      · right; omega
    · exact .inl hl
    · right; omega
  have := Fl.scl_place m i (e + i + 1074).toNat h1 hq
  rw [Int.toNat_of_nonneg (by omega), show e + (i : Int) + 1074 - (i : Int) = e + 1074 by omega, rne_lost] at this
  exact ⟨this, by omega⟩

end Go.Proofs.Ytjjneiidggcfdaa
set_option linter.unusedVariables false
namespace Go.Proofs.Ytjjneiidggcfdaa
open Go.RowKit
attribute [local go_sem ↓] ib_andNot_sign ib_and_frac ib_and_15 ib_and_1 ib_and_sign ib_and_inf ib_or

/-- A word with the other sign. -/
def negB (b : Nat) : Nat := Op.negFloat .f64 b
theorem unary_neg (b : Nat) : Op.unary .neg (.float .f64 b) = pure (.float .f64 (negB b)) := rfl
attribute [go_sem ↓] unary_neg
end Go.Proofs.Ytjjneiidggcfdaa
set_option linter.unusedVariables false
set_option linter.unusedSimpArgs false
set_option linter.unnecessarySimpa false
namespace Go.Proofs.Ytjjneiidggcfdaa
open Go.RowKit
attribute [local go_sem ↓] Go.wp_at_zero Go.wp_at_succ

theorem axplace_any (A : Option Addr) (n c : Nat) (o K i k : Nat) (w : World) (hP : o + k * i < 1048576) :
    Calls Try.prog 56 #[vec A n c o K i, .int .i64 k] w fun e w' => e = .returned (.int .i64 ((o + k * i : Nat) : Int)) ∧ Below w.heap.size w w' := by
  have HB := Lib.hid ((Below.refl w.heap.size w).alloc (Nat.le_refl _) (.cells #[.slice A n c, .int .i64 o, .int .i64 K, .int .i64 i] 30))
  obtain ⟨a, ha⟩ : ∃ a, k * i = a := ⟨_, rfl⟩
  obtain ⟨P, hPd⟩ : ∃ P, o + k * i = P := ⟨_, rfl⟩
  have e1 : ((k : Int) * (i : Int)) = (a : Int) := by rw [← ha]; simp
  have e2 : (o : Int) + (a : Int) = (P : Int) := by rw [← hPd, ha]; simp
  have HW := Lib.hid (wrap3 (o := o) (a := a) (P := P) (by rw [← hPd]; omega) (by rw [← ha, hPd]))
  rw [hPd] at hP ⊢
  clear ha hPd hP
  obtain ⟨u1, u2, u3, u4⟩ := HW.out
  unfold vec
  go_enter Try.func56, Try.ntmps56
  go_wp2_with fail
  go_ret
  exact ⟨rfl, HB.out⟩

set_option maxRecDepth 100000 in
set_option maxHeartbeats 1000000 in
/-- What Axpy does to a number. -/
theorem axaxpy_one (a x y : Nat) (pa px b y0 n c o K i k : Nat) (w : World) (ha : w.cell? ⟨pa, 0, none⟩ = some (.float .f64 a)) (hx : Blk w px 30 #[.slice (some ⟨b, y0, none⟩) n c, .int .i64 o, .int .i64 K, .int .i64 i])
    (hc : w.cell? ⟨b, y0 + (o + k * i), none⟩ = some (.float .f64 x)) (hP : o + k * i < n) (hn : n < 1048576) :
    Calls Try.prog 55 #[.int .i64 (k : Int), .float .f64 y, .pointer (some ⟨pa, 0, none⟩), .pointer (some ⟨px, 0, none⟩)] w fun e w' => ∃ p r, e = .returned (.float .f64 r) ∧ Comes .mul a x p ∧ Comes .add y p r ∧ Below w.heap.size w w' := by
  have HP := Lib.hid (fun W => axplace_any (some ⟨b, y0, none⟩) n c o K i k W (by omega))
  unfold vec at HP
  obtain ⟨P, hPd⟩ : ∃ P, o + k * i = P := ⟨_, rfl⟩
  rw [hPd] at HP hc hP
  have b1 : (P : Int) < (n : Int) := by omega
  have b0 : (0 : Int) ≤ (P : Int) := by omega
  have b2 := hP
  have HA := Lib.hid ha
  have HX := Lib.hid hx
  have HC := Lib.hid hc
  clear ha hx hc hPd hP hn
  go_enter Try.func55, Try.ntmps55
  go_wp2_with fail
  refine wp_region_inv [7, 8, 9, 10, 11, 12, 13, 14, 15, 16, 17, 6] (fun d s W => (d 0 = true → s 7 = .float .f64 y) ∧ (d 1 = true → s 8 = .float .f64 a) ∧ (d 2 = true → s 9 = .pointer (some ⟨px, 0, none⟩)) ∧ (d 3 = true → s 10 = .slice (some ⟨b, y0, none⟩) n c) ∧ (d 4 = true → s 11 = .agg #[.slice (some ⟨b, y0, none⟩) n c, .int .i64 (o : Int), .int .i64 (K : Int), .int .i64 (i : Int)]) ∧ (d 5 = true → s 12 = .int .i64 (k : Int)) ∧ (d 6 = true → s 13 = .int .i64 (P : Int)) ∧ (d 7 = true → s 14 = .pointer (some ⟨b, y0 + P, none⟩)) ∧ (d 8 = true → s 15 = .float .f64 x) ∧ (d 9 = true → ∃ p, s 16 = .float .f64 p ∧ Comes .mul a x p) ∧ (d 10 = true → ∃ p r, s 17 = .float .f64 r ∧ Comes .mul a x p ∧ Comes .add y p r) ∧ (d 11 = true → ∃ p r, s 6 = .float .f64 r ∧ Comes .mul a x p ∧ Comes .add y p r) ∧ Below w.heap.size w W)
    rfl (by kernel_rfl) ?_ ?_ ?_
  · exact ⟨by simp, by simp, by simp, by simp, by simp, by simp, by simp, by simp, by simp, by simp, by simp, by simp, (Below.refl _ _).drew⟩
  · refine ⟨?_, ?_, ?_, ?_, ?_, ?_, ?_, ?_, ?_, ?_, ?_, ?_, trivial⟩
    all_goals
      intro d s W hJ hfr hd hdep
      simp only [List.mem_cons, forall_eq_or_imp, List.not_mem_nil, false_implies, implies_true, and_true, Region.binds] at hdep
      have f0 := hfr 0 (by decide)
      have f1 := hfr 1 (by decide)
      have f2 := hfr 2 (by decide)
      have f3 := hfr 3 (by decide)
      simp at f0 f1 f2 f3 hdep
      obtain ⟨h0, h1, h2, h3, h4, h5, h6, h7, h8, h9, h10, h11, hT⟩ := hJ
      unfold OpSteps
    · simp [go_sem, evS, f1]
      exact ⟨fun _ => by simp [sput], fun h => by simpa [sput] using h1 (by simpa [did] using h), fun h => by simpa [sput] using h2 (by simpa [did] using h), fun h => by simpa [sput] using h3 (by simpa [did] using h), fun h => by simpa [sput] using h4 (by simpa [did] using h), fun h => by simpa [sput] using h5 (by simpa [did] using h), fun h => by simpa [sput] using h6 (by simpa [did] using h), fun h => by simpa [sput] using h7 (by simpa [did] using h), fun h => by simpa [sput] using h8 (by simpa [did] using h), fun h => by simpa [sput] using h9 (by simpa [did] using h), fun h => by simpa [sput] using h10 (by simpa [did] using h), fun h => by simpa [sput] using h11 (by simpa [did] using h), hT⟩
    · have pc := cell_below HA.out hT
      simp [go_sem, evS, f2, pc]
      exact ⟨fun h => by simpa [sput] using h0 (by simpa [did] using h), fun _ => by simp [sput], fun h => by simpa [sput] using h2 (by simpa [did] using h), fun h => by simpa [sput] using h3 (by simpa [did] using h), fun h => by simpa [sput] using h4 (by simpa [did] using h), fun h => by simpa [sput] using h5 (by simpa [did] using h), fun h => by simpa [sput] using h6 (by simpa [did] using h), fun h => by simpa [sput] using h7 (by simpa [did] using h), fun h => by simpa [sput] using h8 (by simpa [did] using h), fun h => by simpa [sput] using h9 (by simpa [did] using h), fun h => by simpa [sput] using h10 (by simpa [did] using h), fun h => by simpa [sput] using h11 (by simpa [did] using h), hT⟩
    · simp [go_sem, evS, f3]
      exact ⟨fun h => by simpa [sput] using h0 (by simpa [did] using h), fun h => by simpa [sput] using h1 (by simpa [did] using h), fun _ => by simp [sput], fun h => by simpa [sput] using h3 (by simpa [did] using h), fun h => by simpa [sput] using h4 (by simpa [did] using h), fun h => by simpa [sput] using h5 (by simpa [did] using h), fun h => by simpa [sput] using h6 (by simpa [did] using h), fun h => by simpa [sput] using h7 (by simpa [did] using h), fun h => by simpa [sput] using h8 (by simpa [did] using h), fun h => by simpa [sput] using h9 (by simpa [did] using h), fun h => by simpa [sput] using h10 (by simpa [did] using h), fun h => by simpa [sput] using h11 (by simpa [did] using h), hT⟩
    · have g2 := h2 (by simp [hdep])
      obtain ⟨p0, p1, p2, p3⟩ := cells4w (HX.out.below hT HX.out.lt)
      simp [go_sem, evS, g2, p0, p1, p2, p3]
      exact ⟨fun h => by simpa [sput] using h0 (by simpa [did] using h), fun h => by simpa [sput] using h1 (by simpa [did] using h), fun h => by simpa [sput] using h2 (by simpa [did] using h), fun _ => by simp [sput], fun h => by simpa [sput] using h4 (by simpa [did] using h), fun h => by simpa [sput] using h5 (by simpa [did] using h), fun h => by simpa [sput] using h6 (by simpa [did] using h), fun h => by simpa [sput] using h7 (by simpa [did] using h), fun h => by simpa [sput] using h8 (by simpa [did] using h), fun h => by simpa [sput] using h9 (by simpa [did] using h), fun h => by simpa [sput] using h10 (by simpa [did] using h), fun h => by simpa [sput] using h11 (by simpa [did] using h), hT⟩
    · obtain ⟨p0, p1, p2, p3⟩ := cells4w (HX.out.below hT HX.out.lt)
      simp [go_sem, evS, f3, p0, p1, p2, p3]
      exact ⟨fun h => by simpa [sput] using h0 (by simpa [did] using h), fun h => by simpa [sput] using h1 (by simpa [did] using h), fun h => by simpa [sput] using h2 (by simpa [did] using h), fun h => by simpa [sput] using h3 (by simpa [did] using h), fun _ => by simp [sput], fun h => by simpa [sput] using h5 (by simpa [did] using h), fun h => by simpa [sput] using h6 (by simpa [did] using h), fun h => by simpa [sput] using h7 (by simpa [did] using h), fun h => by simpa [sput] using h8 (by simpa [did] using h), fun h => by simpa [sput] using h9 (by simpa [did] using h), fun h => by simpa [sput] using h10 (by simpa [did] using h), fun h => by simpa [sput] using h11 (by simpa [did] using h), hT⟩
    · simp [go_sem, evS, f0]
      exact ⟨fun h => by simpa [sput] using h0 (by simpa [did] using h), fun h => by simpa [sput] using h1 (by simpa [did] using h), fun h => by simpa [sput] using h2 (by simpa [did] using h), fun h => by simpa [sput] using h3 (by simpa [did] using h), fun h => by simpa [sput] using h4 (by simpa [did] using h), fun _ => by simp [sput], fun h => by simpa [sput] using h6 (by simpa [did] using h), fun h => by simpa [sput] using h7 (by simpa [did] using h), fun h => by simpa [sput] using h8 (by simpa [did] using h), fun h => by simpa [sput] using h9 (by simpa [did] using h), fun h => by simpa [sput] using h10 (by simpa [did] using h), fun h => by simpa [sput] using h11 (by simpa [did] using h), hT⟩
    · have g4 := h4 (by simp [hdep])
      have g5 := h5 (by simp [hdep])
      simp [go_sem, evS, g4, g5]
      refine (HP.out W).mono ?_
      rintro e W' ⟨rfl, hb⟩
      refine ⟨_, rfl, ?_⟩
      exact ⟨fun h => by simpa [sput] using h0 (by simpa [did] using h), fun h => by simpa [sput] using h1 (by simpa [did] using h), fun h => by simpa [sput] using h2 (by simpa [did] using h), fun h => by simpa [sput] using h3 (by simpa [did] using h), fun h => by simpa [sput] using h4 (by simpa [did] using h), fun h => by simpa [sput] using h5 (by simpa [did] using h), fun _ => by simp [sput], fun h => by simpa [sput] using h7 (by simpa [did] using h), fun h => by simpa [sput] using h8 (by simpa [did] using h), fun h => by simpa [sput] using h9 (by simpa [did] using h), fun h => by simpa [sput] using h10 (by simpa [did] using h), fun h => by simpa [sput] using h11 (by simpa [did] using h), below_nx hT hb⟩
    · have g3 := h3 (by simp [hdep])
      have g6 := h6 (by simp [hdep])
      simp [go_sem, evS, g3, g6, b2]
      exact ⟨fun h => by simpa [sput] using h0 (by simpa [did] using h), fun h => by simpa [sput] using h1 (by simpa [did] using h), fun h => by simpa [sput] using h2 (by simpa [did] using h), fun h => by simpa [sput] using h3 (by simpa [did] using h), fun h => by simpa [sput] using h4 (by simpa [did] using h), fun h => by simpa [sput] using h5 (by simpa [did] using h), fun h => by simpa [sput] using h6 (by simpa [did] using h), fun _ => by simp [sput], fun h => by simpa [sput] using h8 (by simpa [did] using h), fun h => by simpa [sput] using h9 (by simpa [did] using h), fun h => by simpa [sput] using h10 (by simpa [did] using h), fun h => by simpa [sput] using h11 (by simpa [did] using h), hT⟩
    · have g7 := h7 (by simp [hdep])
      have pc := cell_below HC.out hT
      simp [go_sem, evS, g7, pc]
      exact ⟨fun h => by simpa [sput] using h0 (by simpa [did] using h), fun h => by simpa [sput] using h1 (by simpa [did] using h), fun h => by simpa [sput] using h2 (by simpa [did] using h), fun h => by simpa [sput] using h3 (by simpa [did] using h), fun h => by simpa [sput] using h4 (by simpa [did] using h), fun h => by simpa [sput] using h5 (by simpa [did] using h), fun h => by simpa [sput] using h6 (by simpa [did] using h), fun h => by simpa [sput] using h7 (by simpa [did] using h), fun _ => by simp [sput], fun h => by simpa [sput] using h9 (by simpa [did] using h), fun h => by simpa [sput] using h10 (by simpa [did] using h), fun h => by simpa [sput] using h11 (by simpa [did] using h), hT⟩
    · have g1 := h1 (by simp [hdep])
      have g8 := h8 (by simp [hdep])
      simp [go_sem, evS, g1, g8]
      exact ⟨fun h => by simpa [sput] using h0 (by simpa [did] using h), fun h => by simpa [sput] using h1 (by simpa [did] using h), fun h => by simpa [sput] using h2 (by simpa [did] using h), fun h => by simpa [sput] using h3 (by simpa [did] using h), fun h => by simpa [sput] using h4 (by simpa [did] using h), fun h => by simpa [sput] using h5 (by simpa [did] using h), fun h => by simpa [sput] using h6 (by simpa [did] using h), fun h => by simpa [sput] using h7 (by simpa [did] using h), fun h => by simpa [sput] using h8 (by simpa [did] using h), fun _ => ⟨fres .mul W a x, by simp [sput], fres_comes _ _ _ _⟩, fun h => by simpa [sput] using h10 (by simpa [did] using h), fun h => by simpa [sput] using h11 (by simpa [did] using h), below_drewN hT _⟩
    · have g0 := h0 (by simp [hdep])
      have g9 := h9 (by simp [hdep])
      obtain ⟨p, gp, hp⟩ := g9
      simp [go_sem, evS, g0, gp]
      exact ⟨fun h => by simpa [sput] using h0 (by simpa [did] using h), fun h => by simpa [sput] using h1 (by simpa [did] using h), fun h => by simpa [sput] using h2 (by simpa [did] using h), fun h => by simpa [sput] using h3 (by simpa [did] using h), fun h => by simpa [sput] using h4 (by simpa [did] using h), fun h => by simpa [sput] using h5 (by simpa [did] using h), fun h => by simpa [sput] using h6 (by simpa [did] using h), fun h => by simpa [sput] using h7 (by simpa [did] using h), fun h => by simpa [sput] using h8 (by simpa [did] using h), fun h => by simpa [sput] using h9 (by simpa [did] using h), fun _ => ⟨p, fres .add W y p, by simp [sput], hp, fres_comes _ _ _ _⟩, fun h => by simpa [sput] using h11 (by simpa [did] using h), below_drewN hT _⟩
    · have g10 := h10 (by simp [hdep])
      obtain ⟨p, r, gp, hp⟩ := g10
      simp [go_sem, evS, gp]
      exact ⟨fun h => by simpa [sput] using h0 (by simpa [did] using h), fun h => by simpa [sput] using h1 (by simpa [did] using h), fun h => by simpa [sput] using h2 (by simpa [did] using h), fun h => by simpa [sput] using h3 (by simpa [did] using h), fun h => by simpa [sput] using h4 (by simpa [did] using h), fun h => by simpa [sput] using h5 (by simpa [did] using h), fun h => by simpa [sput] using h6 (by simpa [did] using h), fun h => by simpa [sput] using h7 (by simpa [did] using h), fun h => by simpa [sput] using h8 (by simpa [did] using h), fun h => by simpa [sput] using h9 (by simpa [did] using h), fun h => by simpa [sput] using h10 (by simpa [did] using h), fun _ => ⟨p, r, by simp [sput], hp⟩, hT⟩
  intro d s W hJ hd
  obtain ⟨h0, h1, h2, h3, h4, h5, h6, h7, h8, h9, h10, h11, hT⟩ := hJ
  obtain ⟨p, r, hs, hp, hr⟩ := h11 (hd 11 (by decide))
  have HR := Lib.hid (And.intro hp hr)
  have HBe := Lib.hid hT
  clear h0 h1 h2 h3 h4 h5 h6 h7 h8 h9 h10 h11 hT hd hp hr
  simp [setAll, hs]
  clear hs
  go_wp2_with fail
  go_ret
  exact ⟨p, r, rfl, HR.out.1, HR.out.2, HBe.out⟩
end Go.Proofs.Ytjjneiidggcfdaa
set_option linter.unusedVariables false
set_option linter.unusedSimpArgs false
set_option linter.unnecessarySimpa false
namespace Go.Proofs.Ytjjneiidggcfdaa
open Go.RowKit
attribute [local go_sem ↓] Go.wp_at_zero Go.wp_at_succ

theorem wrt_more (l : List Nat) (o i : Nat) (m : List Nat) (x : Nat) : ∀ k, k ≤ m.length → wrt l o i (m ++ [x]) k = wrt l o i m k
  | 0, _ => rfl
  | k + 1, h => by
    show (wrt l o i (m ++ [x]) k).set (o + k * i) ((m ++ [x]).getD k 0) = (wrt l o i m k).set (o + k * i) (m.getD k 0)
    rw [wrt_more l o i m x k (by omega)]
    congr 1
    simp [List.getD, List.getElem?_append_left (show k < m.length by omega)]
theorem wrt_last (l : List Nat) (o i : Nat) (m : List Nat) (x k : Nat) (h : m.length = k) : wrt l o i (m ++ [x]) (k + 1) = (wrt l o i m k).set (o + k * i) x := by
  show (wrt l o i (m ++ [x]) k).set (o + k * i) ((m ++ [x]).getD k 0) = _
  rw [wrt_more l o i m x k (by omega)]
  congr 1
  subst h
  simp [List.getD]
/-- One number has been stored. -/
def Stored (g P : Nat) (R : Nat → Prop) (wr W : World) : Prop := ∃ W' r, Below wr.heap.size wr W' ∧ W = W'.setCell ⟨g, P, none⟩ (.float .f64 r) ∧ R r
/-- Each number has become what was asked. -/
def Eached (I : World → Prop) (R : Nat → Nat → Prop) (g : Nat) (l : List Nat) (o i K : Nat) (w : World) (e : Ending) (w' : World) : Prop :=
  e = .returned (.tuple #[]) ∧ ∃ m : List Nat, m.length = K ∧ (∀ q, q < K → R q (m.getD q 0)) ∧ Own w' g (wrt l o i m K) ∧ I w' ∧ Chg [g] w w'
theorem frz_below {W W' : World} {b o : Nat} (h : W.frozen? ⟨b, o, none⟩ = false) (hlt : b < W.heap.size) (hb : Below W.heap.size W W') : W'.frozen? ⟨b, o, none⟩ = false := (hb.frozen (p := ⟨b, o, none⟩) hlt).trans h

set_option maxRecDepth 100000 in
set_option maxHeartbeats 1000000 in
theorem each_any (F : FuncId) (caps : Array Value) (I : World → Prop) (R : Nat → Nat → Prop) (g n c : Nat) (l : List Nat) (o K i : Nat) (w : World)
    (hF : ∀ args W, (callFunc F args).run Try.prog W = .ok (.enter F args) W) (hO : Own w g l) (hl : l.length = n) (hn : n < 1048576) (hi1 : 1 ≤ i) (hr : K = 0 ∨ o + (K - 1) * i < n) (hI : I w)
    (hIb : ∀ W W', I W → Below W.heap.size W W' → I W') (hIs : ∀ W q v, q < K → I W → I (W.setCell ⟨g, o + q * i, none⟩ (.float .f64 v)))
    (hC : ∀ W q, q < K → I W → Calls Try.prog F (#[.int .i64 (q : Int), .float .f64 (l.getD (o + q * i) 0)] ++ caps) W fun e w' => ∃ r, e = .returned (.float .f64 r) ∧ R q r ∧ Below W.heap.size W w') :
    Calls Try.prog 54 #[vec (some ⟨g, 0, none⟩) n c o K i, .func (.func F) #[] caps] w (Eached I R g l o i K w) := by
  have HRn := Lib.hid (fun a (h : a < K) => show o + a * i < n from by
    rcases hr with h0 | h0
    · omega
    · exact place_lt h0 h)
  have hK : K ≤ n := by
    rcases hr with h0 | h0
    · omega
    · have : K - 1 ≤ (K - 1) * i := Nat.le_mul_of_pos_right _ hi1
      omega
  have HF := Lib.hid hF
  have HO := Lib.hid hO
  have Hl := Lib.hid hl
  have HI0 := Lib.hid hI
  have HIb := Lib.hid hIb
  have HIs := Lib.hid hIs
  have HCa := Lib.hid hC
  have Hi1 := Lib.hid hi1
  have HPl := Lib.hid (fun a (h : a < K) W => axplace_any (some ⟨g, 0, none⟩) n c o K i a W (by have := HRn.out a h; omega))
  clear hF hO hl hI hIb hIs hC hr hi1
  unfold vec at *
  go_enter Try.func54, Try.ntmps54
  have HZ := Lib.hid (Blk.new w 30 #[.slice (some ⟨g, 0, none⟩) n c, .int .i64 o, .int .i64 K, .int .i64 i])
  have hbl0 : Below w.heap.size w _ := (Below.refl w.heap.size w).alloc (Nat.le_refl _) (.cells #[.slice (some ⟨g, 0, none⟩) n c, .int .i64 o, .int .i64 K, .int .i64 i] 30)
  have HO1 := Lib.hid (HO.out.nxt hbl0)
  have HI1 := Lib.hid (HIb.out _ _ HI0.out hbl0)
  have HC1 := Lib.hid (Chg.of_below (G := [g]) hbl0)
  have Hgz := Lib.hid (show g < w.heap.size from HO.out.lt)
  clear hbl0
  go_wp2_with fail
  generalize hz : w.heap.size = z at *
  have Hz := Lib.hid hz
  clear hz
  go_loopw [8] (fun a wr => ∃ (q : Nat) (m : List Nat), q ≤ K ∧ a = .int .i64 q ∧ Hid (m.length = q ∧ (∀ j, j < q → R j (m.getD j 0)) ∧ Own wr g (wrt l o i m q) ∧ I wr ∧ Chg [g] w wr ∧ Blk wr z 30 #[.slice (some ⟨g, 0, none⟩) n c, .int .i64 o, .int .i64 K, .int .i64 i])) (fun a _ => K - (intOf a).toNat)
  case atStart => exact ⟨0, [], Nat.zero_le _, rfl, Lib.hid ⟨rfl, fun j h => by omega, HO1.out, HI1.out, HC1.out, HZ.out⟩⟩
  case round =>
    obtain ⟨q, m, hq, rfl, HH⟩ := hrel
    have HZ1 := Lib.hid HH.out.2.2.2.2.2
    obtain ⟨c0, c1, c2, c3⟩ := cells4w HZ1.out
    by_cases hlt : q < K
    · have hP := HRn.out q hlt
      have HC0 := Lib.hid (fun W (h : I W) => HCa.out W q hlt h)
      have hyv : (wrt l o i m q).getD (o + q * i) 0 = l.getD (o + q * i) 0 := wrt_else l o i m q (fun j hj e => by have := place_inj Hi1.out e; omega)
      have hPl : o + q * i < (wrt l o i m q).length := by rw [wrt_length, Hl.out]; exact hP
      have hce := HH.out.2.2.1.get _ hPl
      have hfz := HH.out.2.2.1.frozen (o + q * i)
      rw [← getD_of_lt hPl, hyv] at hce
      have HDone0 := Lib.hid (show ∀ r, R q r → ∀ W', Below wr.heap.size wr W' → Hid ((m ++ [r]).length = q + 1 ∧ (∀ j, j < q + 1 → R j ((m ++ [r]).getD j 0)) ∧ Own (W'.setCell ⟨g, o + q * i, none⟩ (.float .f64 r)) g (wrt l o i (m ++ [r]) (q + 1)) ∧ I (W'.setCell ⟨g, o + q * i, none⟩ (.float .f64 r)) ∧ Chg [g] w (W'.setCell ⟨g, o + q * i, none⟩ (.float .f64 r)) ∧ Blk (W'.setCell ⟨g, o + q * i, none⟩ (.float .f64 r)) z 30 #[.slice (some ⟨g, 0, none⟩) n c, .int .i64 o, .int .i64 K, .int .i64 i]) from fun r hr W' hb => Lib.hid (by
        obtain ⟨e1, e2, e3, e4, e5, e6⟩ := HH.out
        refine ⟨by simp [e1], fun j hj => ?_, ?_, HIs.out _ _ _ hlt (HIb.out _ _ e4 hb), (e5.nxt hb).set_in (by simp) _, (e6.nxt hb).other (by show z ≠ g; have := Hgz.out; omega) _⟩
        · by_cases h : j < q
          · have : (m ++ [r]).getD j 0 = m.getD j 0 := by simp [List.getD, List.getElem?_append_left (show j < m.length by omega)]
            rw [this]; exact e2 j h
          · obtain rfl : j = q := by omega
            have : (m ++ [r]).getD j 0 = r := by simp [List.getD, ← e1]
            rw [this]; exact hr
        · rw [wrt_last l o i m r q e1]
          exact (e3.nxt hb).set_ _ _ hPl))
      obtain ⟨y, hy⟩ : ∃ y, l.getD (o + q * i) 0 = y := ⟨_, rfl⟩
      rw [hy] at HC0 hce
      have HPq := Lib.hid (HPl.out q hlt)
      obtain ⟨P, hPd⟩ : ∃ P, o + q * i = P := ⟨_, rfl⟩
      rw [hPd] at HPq hP hce hfz HDone0
      have HI := Lib.hid HH.out.2.2.2.1
      have hqK : (q : Int) < (K : Int) := by omega
      have hq1 : q + 1 ≤ 1048576 := by omega
      have b2 := hP
      have HCe0 := Lib.hid hce
      have HFz0 := Lib.hid hfz
      clear hyv hPl hy hPd hce hfz hP
      go_wp2_with fail
      refine (HPq.out _).mono ?_
      rintro e wp ⟨rfl, hbp⟩
      have HDone := Lib.hid (fun r hr W' (hb : Below wp.heap.size wp W') => HDone0.out r hr W' (below_nx hbp hb))
      have HCe := Lib.hid (cell_below HCe0.out hbp)
      have hlt0 : g < wp.heap.size := block_lt HCe.out
      have HFz := Lib.hid (frz_below HFz0.out (block_lt HCe0.out) hbp)
      have HC := HC0
      have HIp := Lib.hid (HIb.out _ _ HI.out hbp)
      have HZ2 := Lib.hid (HZ1.out.nxt hbp)
      have HI := HIp
      clear hbp c0 c1 c2 c3 HIp
      obtain ⟨c0, c1, c2, c3⟩ := cells4w HZ2.out
      generalize wp = wr at *
      go_wp2_with fail
      refine wp_region_inv [14, 15, 16, 17, 18, 19, 20, 21, 22, 23, 24, 25] (fun d s W => (d 0 = true → s 14 = .pointer (some ⟨z, 0, none⟩)) ∧ (d 1 = true → s 15 = .slice (some ⟨g, 0, none⟩) n c) ∧ (d 2 = true → s 16 = .int .i64 (P : Int)) ∧ (d 3 = true → s 17 = .func (.func F) #[] caps) ∧ (d 4 = true → s 18 = .int .i64 (q : Int)) ∧ (d 5 = true → s 19 = .pointer (some ⟨z, 0, none⟩)) ∧ (d 6 = true → s 20 = .slice (some ⟨g, 0, none⟩) n c) ∧ (d 7 = true → s 21 = .int .i64 (P : Int)) ∧ (d 8 = true → s 22 = .pointer (some ⟨g, P, none⟩)) ∧ (d 9 = true → s 23 = .float .f64 y) ∧ (d 10 = true → ∃ r, s 24 = .float .f64 r ∧ R q r) ∧ (d 11 = true → s 25 = .pointer (some ⟨g, P, none⟩)) ∧ (d 1 = true → d 0 = true) ∧ (d 6 = true → d 5 = true) ∧ (d 8 = true → d 5 = true ∧ d 6 = true ∧ d 7 = true) ∧ (d 9 = true → d 5 = true ∧ d 6 = true ∧ d 7 = true ∧ d 8 = true) ∧ (d 10 = true → d 3 = true ∧ d 4 = true ∧ d 5 = true ∧ d 6 = true ∧ d 7 = true ∧ d 8 = true ∧ d 9 = true) ∧ (d 11 = true → d 0 = true ∧ d 1 = true ∧ d 2 = true) ∧ (d 12 = true → d 0 = true ∧ d 1 = true ∧ d 2 = true ∧ d 3 = true ∧ d 4 = true ∧ d 5 = true ∧ d 6 = true ∧ d 7 = true ∧ d 8 = true ∧ d 9 = true ∧ d 10 = true ∧ d 11 = true) ∧ ((d 12 = false → Below wr.heap.size wr W) ∧ (d 12 = true → Stored g P (R q) wr W)))
        rfl (by kernel_rfl) ?_ ?_ ?_
      · exact ⟨by simp, by simp, by simp, by simp, by simp, by simp, by simp, by simp, by simp, by simp, by simp, by simp, by simp, by simp, by simp, by simp, by simp, by simp, by simp, ⟨fun _ => (Below.refl _ _).drew, fun h => by simp at h⟩⟩
      · refine ⟨?_, ?_, ?_, ?_, ?_, ?_, ?_, ?_, ?_, ?_, ?_, ?_, ?_, trivial⟩
        all_goals
          intro d s W hJ hfr hd hdep
          simp only [List.mem_cons, forall_eq_or_imp, List.not_mem_nil, false_implies, implies_true, and_true, Region.binds] at hdep
          have f1 := hfr 1 (by decide)
          have f2 := hfr 2 (by decide)
          have f4 := hfr 4 (by decide)
          have f5 := hfr 5 (by decide)
          simp at f1 f2 f4 f5 hdep
          obtain ⟨h0, h1, h2, h3, h4, h5, h6, h7, h8, h9, h10, h11, x0, x1, x2, x3, x4, x5, x6, hT⟩ := hJ
          have hT0 := hT
          unfold OpSteps
        · have hl : d 12 = false := by
            cases h : d 12
            · rfl
            · have := x6 h; simp [hd] at this
          replace hT := hT.1 hl
          simp [go_sem, evS, f2]
          exact ⟨fun _ => by simp [sput], fun h => by simpa [sput] using h1 (by simpa [did] using h), fun h => by simpa [sput] using h2 (by simpa [did] using h), fun h => by simpa [sput] using h3 (by simpa [did] using h), fun h => by simpa [sput] using h4 (by simpa [did] using h), fun h => by simpa [sput] using h5 (by simpa [did] using h), fun h => by simpa [sput] using h6 (by simpa [did] using h), fun h => by simpa [sput] using h7 (by simpa [did] using h), fun h => by simpa [sput] using h8 (by simpa [did] using h), fun h => by simpa [sput] using h9 (by simpa [did] using h), fun h => by simpa [sput] using h10 (by simpa [did] using h), fun h => by simpa [sput] using h11 (by simpa [did] using h), fun h => by have := x0 (by simpa [did] using h); simp [did, this], fun h => by have := x1 (by simpa [did] using h); simp [did, this], fun h => by have := x2 (by simpa [did] using h); simp [did, this], fun h => by have := x3 (by simpa [did] using h); simp [did, this], fun h => by have := x4 (by simpa [did] using h); simp [did, this], fun h => by have := x5 (by simpa [did] using h); simp [did, this], fun h => by have := x6 (by simpa [did] using h); simp [did, this], ⟨fun _ => hT, fun h => by simp [did, hl] at h⟩⟩
        · have hl : d 12 = false := by
            cases h : d 12
            · rfl
            · have := x6 h; simp [hd] at this
          replace hT := hT.1 hl
          have g0 := h0 (by simp [hdep])
          obtain ⟨p0, p1, p2, p3⟩ := cells4w (HZ2.out.below hT HZ2.out.lt)
          simp [go_sem, evS, g0, p0, p1, p2, p3]
          exact ⟨fun h => by simpa [sput] using h0 (by simpa [did] using h), fun _ => by simp [sput], fun h => by simpa [sput] using h2 (by simpa [did] using h), fun h => by simpa [sput] using h3 (by simpa [did] using h), fun h => by simpa [sput] using h4 (by simpa [did] using h), fun h => by simpa [sput] using h5 (by simpa [did] using h), fun h => by simpa [sput] using h6 (by simpa [did] using h), fun h => by simpa [sput] using h7 (by simpa [did] using h), fun h => by simpa [sput] using h8 (by simpa [did] using h), fun h => by simpa [sput] using h9 (by simpa [did] using h), fun h => by simpa [sput] using h10 (by simpa [did] using h), fun h => by simpa [sput] using h11 (by simpa [did] using h), fun _ => by simp [did, hdep], fun h => by have := x1 (by simpa [did] using h); simp [did, this], fun h => by have := x2 (by simpa [did] using h); simp [did, this], fun h => by have := x3 (by simpa [did] using h); simp [did, this], fun h => by have := x4 (by simpa [did] using h); simp [did, this], fun h => by have := x5 (by simpa [did] using h); simp [did, this], fun h => by have := x6 (by simpa [did] using h); simp [did, this], ⟨fun _ => hT, fun h => by simp [did, hl] at h⟩⟩
        · have hl : d 12 = false := by
            cases h : d 12
            · rfl
            · have := x6 h; simp [hd] at this
          replace hT := hT.1 hl
          simp [go_sem, evS, f5]
          exact ⟨fun h => by simpa [sput] using h0 (by simpa [did] using h), fun h => by simpa [sput] using h1 (by simpa [did] using h), fun _ => by simp [sput], fun h => by simpa [sput] using h3 (by simpa [did] using h), fun h => by simpa [sput] using h4 (by simpa [did] using h), fun h => by simpa [sput] using h5 (by simpa [did] using h), fun h => by simpa [sput] using h6 (by simpa [did] using h), fun h => by simpa [sput] using h7 (by simpa [did] using h), fun h => by simpa [sput] using h8 (by simpa [did] using h), fun h => by simpa [sput] using h9 (by simpa [did] using h), fun h => by simpa [sput] using h10 (by simpa [did] using h), fun h => by simpa [sput] using h11 (by simpa [did] using h), fun h => by have := x0 (by simpa [did] using h); simp [did, this], fun h => by have := x1 (by simpa [did] using h); simp [did, this], fun h => by have := x2 (by simpa [did] using h); simp [did, this], fun h => by have := x3 (by simpa [did] using h); simp [did, this], fun h => by have := x4 (by simpa [did] using h); simp [did, this], fun h => by have := x5 (by simpa [did] using h); simp [did, this], fun h => by have := x6 (by simpa [did] using h); simp [did, this], ⟨fun _ => hT, fun h => by simp [did, hl] at h⟩⟩
        · have hl : d 12 = false := by
            cases h : d 12
            · rfl
            · have := x6 h; simp [hd] at this
          replace hT := hT.1 hl
          simp [go_sem, evS, f1]
          exact ⟨fun h => by simpa [sput] using h0 (by simpa [did] using h), fun h => by simpa [sput] using h1 (by simpa [did] using h), fun h => by simpa [sput] using h2 (by simpa [did] using h), fun _ => by simp [sput], fun h => by simpa [sput] using h4 (by simpa [did] using h), fun h => by simpa [sput] using h5 (by simpa [did] using h), fun h => by simpa [sput] using h6 (by simpa [did] using h), fun h => by simpa [sput] using h7 (by simpa [did] using h), fun h => by simpa [sput] using h8 (by simpa [did] using h), fun h => by simpa [sput] using h9 (by simpa [did] using h), fun h => by simpa [sput] using h10 (by simpa [did] using h), fun h => by simpa [sput] using h11 (by simpa [did] using h), fun h => by have := x0 (by simpa [did] using h); simp [did, this], fun h => by have := x1 (by simpa [did] using h); simp [did, this], fun h => by have := x2 (by simpa [did] using h); simp [did, this], fun h => by have := x3 (by simpa [did] using h); simp [did, this], fun h => by have := x4 (by simpa [did] using h); simp [did, this], fun h => by have := x5 (by simpa [did] using h); simp [did, this], fun h => by have := x6 (by simpa [did] using h); simp [did, this], ⟨fun _ => hT, fun h => by simp [did, hl] at h⟩⟩
        · have hl : d 12 = false := by
            cases h : d 12
            · rfl
            · have := x6 h; simp [hd] at this
          replace hT := hT.1 hl
          simp [go_sem, evS, f4]
          exact ⟨fun h => by simpa [sput] using h0 (by simpa [did] using h), fun h => by simpa [sput] using h1 (by simpa [did] using h), fun h => by simpa [sput] using h2 (by simpa [did] using h), fun h => by simpa [sput] using h3 (by simpa [did] using h), fun _ => by simp [sput], fun h => by simpa [sput] using h5 (by simpa [did] using h), fun h => by simpa [sput] using h6 (by simpa [did] using h), fun h => by simpa [sput] using h7 (by simpa [did] using h), fun h => by simpa [sput] using h8 (by simpa [did] using h), fun h => by simpa [sput] using h9 (by simpa [did] using h), fun h => by simpa [sput] using h10 (by simpa [did] using h), fun h => by simpa [sput] using h11 (by simpa [did] using h), fun h => by have := x0 (by simpa [did] using h); simp [did, this], fun h => by have := x1 (by simpa [did] using h); simp [did, this], fun h => by have := x2 (by simpa [did] using h); simp [did, this], fun h => by have := x3 (by simpa [did] using h); simp [did, this], fun h => by have := x4 (by simpa [did] using h); simp [did, this], fun h => by have := x5 (by simpa [did] using h); simp [did, this], fun h => by have := x6 (by simpa [did] using h); simp [did, this], ⟨fun _ => hT, fun h => by simp [did, hl] at h⟩⟩
        · have hl : d 12 = false := by
            cases h : d 12
            · rfl
            · have := x6 h; simp [hd] at this
          replace hT := hT.1 hl
          simp [go_sem, evS, f2]
          exact ⟨fun h => by simpa [sput] using h0 (by simpa [did] using h), fun h => by simpa [sput] using h1 (by simpa [did] using h), fun h => by simpa [sput] using h2 (by simpa [did] using h), fun h => by simpa [sput] using h3 (by simpa [did] using h), fun h => by simpa [sput] using h4 (by simpa [did] using h), fun _ => by simp [sput], fun h => by simpa [sput] using h6 (by simpa [did] using h), fun h => by simpa [sput] using h7 (by simpa [did] using h), fun h => by simpa [sput] using h8 (by simpa [did] using h), fun h => by simpa [sput] using h9 (by simpa [did] using h), fun h => by simpa [sput] using h10 (by simpa [did] using h), fun h => by simpa [sput] using h11 (by simpa [did] using h), fun h => by have := x0 (by simpa [did] using h); simp [did, this], fun h => by have := x1 (by simpa [did] using h); simp [did, this], fun h => by have := x2 (by simpa [did] using h); simp [did, this], fun h => by have := x3 (by simpa [did] using h); simp [did, this], fun h => by have := x4 (by simpa [did] using h); simp [did, this], fun h => by have := x5 (by simpa [did] using h); simp [did, this], fun h => by have := x6 (by simpa [did] using h); simp [did, this], ⟨fun _ => hT, fun h => by simp [did, hl] at h⟩⟩
        · have hl : d 12 = false := by
            cases h : d 12
            · rfl
            · have := x6 h; simp [hd] at this
          replace hT := hT.1 hl
          have g5 := h5 (by simp [hdep])
          obtain ⟨p0, p1, p2, p3⟩ := cells4w (HZ2.out.below hT HZ2.out.lt)
          simp [go_sem, evS, g5, p0, p1, p2, p3]
          exact ⟨fun h => by simpa [sput] using h0 (by simpa [did] using h), fun h => by simpa [sput] using h1 (by simpa [did] using h), fun h => by simpa [sput] using h2 (by simpa [did] using h), fun h => by simpa [sput] using h3 (by simpa [did] using h), fun h => by simpa [sput] using h4 (by simpa [did] using h), fun h => by simpa [sput] using h5 (by simpa [did] using h), fun _ => by simp [sput], fun h => by simpa [sput] using h7 (by simpa [did] using h), fun h => by simpa [sput] using h8 (by simpa [did] using h), fun h => by simpa [sput] using h9 (by simpa [did] using h), fun h => by simpa [sput] using h10 (by simpa [did] using h), fun h => by simpa [sput] using h11 (by simpa [did] using h), fun h => by have := x0 (by simpa [did] using h); simp [did, this], fun _ => by simp [did, hdep], fun h => by have := x2 (by simpa [did] using h); simp [did, this], fun h => by have := x3 (by simpa [did] using h); simp [did, this], fun h => by have := x4 (by simpa [did] using h); simp [did, this], fun h => by have := x5 (by simpa [did] using h); simp [did, this], fun h => by have := x6 (by simpa [did] using h); simp [did, this], ⟨fun _ => hT, fun h => by simp [did, hl] at h⟩⟩
        · have hl : d 12 = false := by
            cases h : d 12
            · rfl
            · have := x6 h; simp [hd] at this
          replace hT := hT.1 hl
          simp [go_sem, evS, f5]
          exact ⟨fun h => by simpa [sput] using h0 (by simpa [did] using h), fun h => by simpa [sput] using h1 (by simpa [did] using h), fun h => by simpa [sput] using h2 (by simpa [did] using h), fun h => by simpa [sput] using h3 (by simpa [did] using h), fun h => by simpa [sput] using h4 (by simpa [did] using h), fun h => by simpa [sput] using h5 (by simpa [did] using h), fun h => by simpa [sput] using h6 (by simpa [did] using h), fun _ => by simp [sput], fun h => by simpa [sput] using h8 (by simpa [did] using h), fun h => by simpa [sput] using h9 (by simpa [did] using h), fun h => by simpa [sput] using h10 (by simpa [did] using h), fun h => by simpa [sput] using h11 (by simpa [did] using h), fun h => by have := x0 (by simpa [did] using h); simp [did, this], fun h => by have := x1 (by simpa [did] using h); simp [did, this], fun h => by have := x2 (by simpa [did] using h); simp [did, this], fun h => by have := x3 (by simpa [did] using h); simp [did, this], fun h => by have := x4 (by simpa [did] using h); simp [did, this], fun h => by have := x5 (by simpa [did] using h); simp [did, this], fun h => by have := x6 (by simpa [did] using h); simp [did, this], ⟨fun _ => hT, fun h => by simp [did, hl] at h⟩⟩
        · have hl : d 12 = false := by
            cases h : d 12
            · rfl
            · have := x6 h; simp [hd] at this
          replace hT := hT.1 hl
          have g6 := h6 (by simp [hdep])
          have g7 := h7 (by simp [hdep])
          simp [go_sem, evS, g6, g7, b2]
          exact ⟨fun h => by simpa [sput] using h0 (by simpa [did] using h), fun h => by simpa [sput] using h1 (by simpa [did] using h), fun h => by simpa [sput] using h2 (by simpa [did] using h), fun h => by simpa [sput] using h3 (by simpa [did] using h), fun h => by simpa [sput] using h4 (by simpa [did] using h), fun h => by simpa [sput] using h5 (by simpa [did] using h), fun h => by simpa [sput] using h6 (by simpa [did] using h), fun h => by simpa [sput] using h7 (by simpa [did] using h), fun _ => by simp [sput], fun h => by simpa [sput] using h9 (by simpa [did] using h), fun h => by simpa [sput] using h10 (by simpa [did] using h), fun h => by simpa [sput] using h11 (by simpa [did] using h), fun h => by have := x0 (by simpa [did] using h); simp [did, this], fun h => by have := x1 (by simpa [did] using h); simp [did, this], fun _ => by have y6 := x1 (by simp [hdep]); simp [did, hdep, y6], fun h => by have := x3 (by simpa [did] using h); simp [did, this], fun h => by have := x4 (by simpa [did] using h); simp [did, this], fun h => by have := x5 (by simpa [did] using h); simp [did, this], fun h => by have := x6 (by simpa [did] using h); simp [did, this], ⟨fun _ => hT, fun h => by simp [did, hl] at h⟩⟩
        · have hl : d 12 = false := by
            cases h : d 12
            · rfl
            · have := x6 h; simp [hd] at this
          replace hT := hT.1 hl
          have g8 := h8 (by simp [hdep])
          have pc := cell_below HCe.out hT
          simp [go_sem, evS, g8, pc]
          exact ⟨fun h => by simpa [sput] using h0 (by simpa [did] using h), fun h => by simpa [sput] using h1 (by simpa [did] using h), fun h => by simpa [sput] using h2 (by simpa [did] using h), fun h => by simpa [sput] using h3 (by simpa [did] using h), fun h => by simpa [sput] using h4 (by simpa [did] using h), fun h => by simpa [sput] using h5 (by simpa [did] using h), fun h => by simpa [sput] using h6 (by simpa [did] using h), fun h => by simpa [sput] using h7 (by simpa [did] using h), fun h => by simpa [sput] using h8 (by simpa [did] using h), fun _ => by simp [sput], fun h => by simpa [sput] using h10 (by simpa [did] using h), fun h => by simpa [sput] using h11 (by simpa [did] using h), fun h => by have := x0 (by simpa [did] using h); simp [did, this], fun h => by have := x1 (by simpa [did] using h); simp [did, this], fun h => by have := x2 (by simpa [did] using h); simp [did, this], fun _ => by have y8 := x2 (by simp [hdep]); simp [did, hdep, y8], fun h => by have := x4 (by simpa [did] using h); simp [did, this], fun h => by have := x5 (by simpa [did] using h); simp [did, this], fun h => by have := x6 (by simpa [did] using h); simp [did, this], ⟨fun _ => hT, fun h => by simp [did, hl] at h⟩⟩
        · have hl : d 12 = false := by
            cases h : d 12
            · rfl
            · have := x6 h; simp [hd] at this
          replace hT := hT.1 hl
          have g3 := h3 (by simp [hdep])
          have g4 := h4 (by simp [hdep])
          have g9 := h9 (by simp [hdep])
          simp [go_sem, evS, g3, g4, g9, HF.out]
          refine (HC.out W (HIb.out _ _ HI.out hT)).mono ?_
          rintro e W' ⟨r, rfl, hr, hb⟩
          refine ⟨_, rfl, ?_⟩
          exact ⟨fun h => by simpa [sput] using h0 (by simpa [did] using h), fun h => by simpa [sput] using h1 (by simpa [did] using h), fun h => by simpa [sput] using h2 (by simpa [did] using h), fun h => by simpa [sput] using h3 (by simpa [did] using h), fun h => by simpa [sput] using h4 (by simpa [did] using h), fun h => by simpa [sput] using h5 (by simpa [did] using h), fun h => by simpa [sput] using h6 (by simpa [did] using h), fun h => by simpa [sput] using h7 (by simpa [did] using h), fun h => by simpa [sput] using h8 (by simpa [did] using h), fun h => by simpa [sput] using h9 (by simpa [did] using h), fun _ => ⟨r, by simp [sput], hr⟩, fun h => by simpa [sput] using h11 (by simpa [did] using h), fun h => by have := x0 (by simpa [did] using h); simp [did, this], fun h => by have := x1 (by simpa [did] using h); simp [did, this], fun h => by have := x2 (by simpa [did] using h); simp [did, this], fun h => by have := x3 (by simpa [did] using h); simp [did, this], fun _ => by have y9 := x3 (by simp [hdep]); simp [did, hdep, y9], fun h => by have := x5 (by simpa [did] using h); simp [did, this], fun h => by have := x6 (by simpa [did] using h); simp [did, this], ⟨fun _ => below_nx hT hb, fun h => by simp [did, hl] at h⟩⟩
        · have hl : d 12 = false := by
            cases h : d 12
            · rfl
            · have := x6 h; simp [hd] at this
          replace hT := hT.1 hl
          have g1 := h1 (by simp [hdep])
          have g2 := h2 (by simp [hdep])
          simp [go_sem, evS, g1, g2, b2]
          exact ⟨fun h => by simpa [sput] using h0 (by simpa [did] using h), fun h => by simpa [sput] using h1 (by simpa [did] using h), fun h => by simpa [sput] using h2 (by simpa [did] using h), fun h => by simpa [sput] using h3 (by simpa [did] using h), fun h => by simpa [sput] using h4 (by simpa [did] using h), fun h => by simpa [sput] using h5 (by simpa [did] using h), fun h => by simpa [sput] using h6 (by simpa [did] using h), fun h => by simpa [sput] using h7 (by simpa [did] using h), fun h => by simpa [sput] using h8 (by simpa [did] using h), fun h => by simpa [sput] using h9 (by simpa [did] using h), fun h => by simpa [sput] using h10 (by simpa [did] using h), fun _ => by simp [sput], fun h => by have := x0 (by simpa [did] using h); simp [did, this], fun h => by have := x1 (by simpa [did] using h); simp [did, this], fun h => by have := x2 (by simpa [did] using h); simp [did, this], fun h => by have := x3 (by simpa [did] using h); simp [did, this], fun h => by have := x4 (by simpa [did] using h); simp [did, this], fun _ => by have y1 := x0 (by simp [hdep]); simp [did, hdep, y1], fun h => by have := x6 (by simpa [did] using h); simp [did, this], ⟨fun _ => hT, fun h => by simp [did, hl] at h⟩⟩
        · have g11 := h11 (by simp [hdep])
          have g10 := h10 (by simp [hdep])
          replace hT := hT.1 hd
          obtain ⟨r, gr, hr⟩ := g10
          have hfz := frz_below HFz.out hlt0 hT
          have hcl := cell_below HCe.out hT
          simp [go_sem, evS, g11, gr, hfz, hcl]
          exact ⟨fun h => by simpa [sput] using h0 (by simpa [did] using h), fun h => by simpa [sput] using h1 (by simpa [did] using h), fun h => by simpa [sput] using h2 (by simpa [did] using h), fun h => by simpa [sput] using h3 (by simpa [did] using h), fun h => by simpa [sput] using h4 (by simpa [did] using h), fun h => by simpa [sput] using h5 (by simpa [did] using h), fun h => by simpa [sput] using h6 (by simpa [did] using h), fun h => by simpa [sput] using h7 (by simpa [did] using h), fun h => by simpa [sput] using h8 (by simpa [did] using h), fun h => by simpa [sput] using h9 (by simpa [did] using h), fun h => by simpa [sput] using h10 (by simpa [did] using h), fun h => by simpa [sput] using h11 (by simpa [did] using h), fun h => by have := x0 (by simpa [did] using h); simp [did, this], fun h => by have := x1 (by simpa [did] using h); simp [did, this], fun h => by have := x2 (by simpa [did] using h); simp [did, this], fun h => by have := x3 (by simpa [did] using h); simp [did, this], fun h => by have := x4 (by simpa [did] using h); simp [did, this], fun h => by have := x5 (by simpa [did] using h); simp [did, this], fun _ => by have y10 := x4 (by simp [hdep]); have y11 := x5 (by simp [hdep]); simp [did, hdep, y10, y11], ⟨fun h => by simp [did] at h, fun _ => ⟨W, r, hT, rfl, hr⟩⟩⟩
      intro d s W hJ hd
      obtain ⟨h0, h1, h2, h3, h4, h5, h6, h7, h8, h9, h10, h11, x0, x1, x2, x3, x4, x5, x6, hT⟩ := hJ
      obtain ⟨W', r, hbw, rfl, hr⟩ := hT.2 (hd 12 (by decide))
      have HR := Lib.hid hr
      have HBw := Lib.hid hbw
      clear h0 h1 h2 h3 h4 h5 h6 h7 h8 h9 h10 h11 x0 x1 x2 x3 x4 x5 x6 hT hd hbw hr
      simp [setAll]
      generalize s 14 = s14
      generalize s 15 = s15
      generalize s 16 = s16
      generalize s 17 = s17
      generalize s 18 = s18
      generalize s 19 = s19
      generalize s 20 = s20
      generalize s 21 = s21
      generalize s 22 = s22
      generalize s 23 = s23
      generalize s 24 = s24
      generalize s 25 = s25
      go_wp2_with fail
      go_roundw
      case rel => exact ⟨q + 1, m ++ [r], by omega, by go_num, HDone.out r HR.out W' HBw.out⟩
      case measure => simp [intOf]; omega
    · obtain rfl : q = K := by omega
      have hqc : ¬ (q : Int) < (q : Int) := by omega
      go_wp2_with fail
      go_end0
      obtain ⟨e1, e2, e3, e4, e5, e6⟩ := HH.out
      exact ⟨rfl, m, e1, e2, e3, e4, e5⟩
end Go.Proofs.Ytjjneiidggcfdaa
set_option linter.unusedVariables false
set_option linter.unusedSimpArgs false
namespace Go.Proofs.Ytjjneiidggcfdaa
open Go.RowKit
attribute [local go_sem ↓] Go.wp_at_zero Go.wp_at_succ

theorem axaxpy_enters : Enters Try.prog 55 := enters_of Try.func55 (by kernel_rfl) rfl

set_option maxRecDepth 100000 in
set_option maxHeartbeats 1000000 in
theorem axpy_err (a g g' c c' : Nat) (l l' : List Nat) (n n' : Nat) (off k inc off' k' inc' : Int) (w : World) (hO : Own w g l) (hO' : Own w g' l') (hln : l.length = n) (hln' : l'.length = n') (hn : n < 9223372036854775808) (hn' : n' < 9223372036854775808)
    (ho : I64 off) (hk : I64 k) (hi : I64 inc) (ho' : I64 off') (hk' : I64 k') (hi' : I64 inc') (P : Int) (hP : pairI (decide (g = g')) n off k inc n' off' k' inc' = P) (h0 : P ≠ 0) :
    Calls Try.prog 24 #[.float .f64 a, vec (some ⟨g', 0, none⟩) n' c' off' k' inc', vec (some ⟨g, 0, none⟩) n c off k inc] w fun e w' => e = .returned (.int .i64 P) ∧ Below w.heap.size w w' := by
  have HPr := Lib.hid (fun W (hb : Below w.heap.size w W) => pair_any g g' c c' l l' n n' off k inc off' k' inc' W (hO.nxt hb) (hO'.nxt hb) hln hln' hn hn' ho hk hi ho' hk' hi')
  rw [hP] at HPr
  have ht : (P == 0) = false := by simp [h0]
  have ht2 : (P != 0) = true := by simp [h0]
  clear hO hO' hln hln' hn hn' ho hk hi ho' hk' hi' hP h0
  unfold vec at *
  go_enter Try.func24, Try.ntmps24
  have HB0 := Lib.hid ((((Below.refl w.heap.size w).alloc (Nat.le_refl _) (.cells #[.float .f64 a] 25)).alloc (by simp) (.cells #[.slice (some ⟨g', 0, none⟩) n' c', .int .i64 off', .int .i64 k', .int .i64 inc'] 30)).alloc (by simp; omega) (.cells #[.slice (some ⟨g, 0, none⟩) n c, .int .i64 off, .int .i64 k, .int .i64 inc] 30))
  have HX := Lib.hid ((Blk.new_ (w.alloc (.cells #[.float .f64 a] 25)) 30 #[.slice (some ⟨g', 0, none⟩) n' c', .int .i64 off', .int .i64 k', .int .i64 inc'] (w.heap.size + 1) (by simp)).alloc (.cells #[.slice (some ⟨g, 0, none⟩) n c, .int .i64 off, .int .i64 k, .int .i64 inc] 30))
  obtain ⟨x0, x1, x2, x3⟩ := cells4w HX.out
  have HY := Lib.hid (Blk.new_ ((w.alloc (.cells #[.float .f64 a] 25)).alloc (.cells #[.slice (some ⟨g', 0, none⟩) n' c', .int .i64 off', .int .i64 k', .int .i64 inc'] 30)) 30 #[.slice (some ⟨g, 0, none⟩) n c, .int .i64 off, .int .i64 k, .int .i64 inc] (w.heap.size + 1 + 1) (by simp))
  obtain ⟨y0, y1, y2, y3⟩ := cells4w HY.out
  go_wp2_with fail
  refine (HPr.out _ HB0.out).mono ?_
  rintro e w1 ⟨rfl, hb⟩
  have HB1 := Lib.hid (below_nx HB0.out hb)
  clear hb x0 x1 x2 x3 y0 y1 y2 y3
  go_wp2_with fail
  go_ret
  exact ⟨rfl, HB1.out⟩

/-- What Axpy makes of a number. -/
def AxR (a : Nat) (l : List Nat) (o i : Nat) (l' : List Nat) (o' i' : Nat) (q r : Nat) : Prop := ∃ p, Comes .mul a (l'.getD (o' + q * i') 0) p ∧ Comes .add (l.getD (o + q * i) 0) p r

set_option maxRecDepth 100000 in
set_option maxHeartbeats 1000000 in
theorem axpy_ok (a g g' c c' : Nat) (l l' : List Nat) (n n' : Nat) (o K i o' i' : Nat) (w : World) (hO : Own w g l) (hO' : Own w g' l') (hln : l.length = n) (hln' : l'.length = n') (hn : n < 1048576) (hn' : n' < 1048576)
    (hi1 : 1 ≤ i) (hr : K = 0 ∨ o + (K - 1) * i < n) (hr' : K = 0 ∨ o' + (K - 1) * i' < n') (ho : I64 o) (hk : I64 K) (hi : I64 i) (ho' : I64 o') (hi' : I64 i') (hP : pairI (decide (g = g')) n o K i n' o' K i' = 0) (hm : g = g' → metB o i o' i' K = false) :
    Calls Try.prog 24 #[.float .f64 a, vec (some ⟨g', 0, none⟩) n' c' o' K i', vec (some ⟨g, 0, none⟩) n c o K i] w fun e w' => e = .returned (.int .i64 0) ∧
      ∃ m : List Nat, m.length = K ∧ (∀ q, q < K → AxR a l o i l' o' i' q (m.getD q 0)) ∧ Own w' g (wrt l o i m K) ∧ Chg [g] w w' := by
  have HPr := Lib.hid (fun W (hb : Below w.heap.size w W) => pair_any g g' c c' l l' n n' o K i o' K i' W (hO.nxt hb) (hO'.nxt hb) hln hln' (by omega) (by omega) ho hk hi ho' hk hi')
  rw [hP] at HPr
  have HRx := Lib.hid (fun q (h : q < K) => show o' + q * i' < n' from by
    rcases hr' with h0 | h0
    · omega
    · exact place_lt h0 h)
  have HEa := Lib.hid (fun W (ga z : Nat) (hb : Below w.heap.size w W) (hz : w.heap.size ≤ ga) (hz2 : w.heap.size ≤ z) (hA : W.cell? ⟨ga, 0, none⟩ = some (.float .f64 a)) (hX : Blk W z 30 #[.slice (some ⟨g', 0, none⟩) n' c', .int .i64 o', .int .i64 K, .int .i64 i']) =>
    each_any 55 #[.pointer (some ⟨ga, 0, none⟩), .pointer (some ⟨z, 0, none⟩)]
      (fun W => W.cell? ⟨ga, 0, none⟩ = some (.float .f64 a) ∧ Blk W z 30 #[.slice (some ⟨g', 0, none⟩) n' c', .int .i64 o', .int .i64 K, .int .i64 i'] ∧ ∀ q, q < K → W.cell? ⟨g', 0 + (o' + q * i'), none⟩ = some (.float .f64 (l'.getD (o' + q * i') 0)))
      (AxR a l o i l' o' i') g n c l o K i W (fun args W => axaxpy_enters args W) (hO.nxt hb) hln hn hi1 hr
      ⟨hA, hX, fun q hq => by
        have h1 := HRx.out q hq
        have h2 : o' + q * i' < l'.length := by omega
        rw [Nat.zero_add, getD_of_lt h2]
        exact (hO'.nxt hb).get _ h2⟩
      (fun W W' h hb' => ⟨cell_below h.1 hb', h.2.1.nxt hb', fun q hq => cell_below (h.2.2 q hq) hb'⟩)
      (fun W q v hq h => ⟨(cell_set (by have := hO.lt; omega) _).trans h.1, h.2.1.other (by show z ≠ g; have := hO.lt; omega) _, fun j hj => by
        by_cases e : g = g'
        · refine (World.cell?_setCell_other W _ _ _ ?_).trans (h.2.2 j hj)
          intro e2
          have := metB_false.1 (hm e) q hq j hj
          injection e2 with _ e3
          omega
        · exact (cell_set (fun e2 => e e2.symm) _).trans (h.2.2 j hj)⟩)
      (fun W q hq h => by
        have := axaxpy_one a (l'.getD (o' + q * i') 0) (l.getD (o + q * i) 0) ga z g' 0 n' c' o' K i' q W h.1 h.2.1 (h.2.2 q hq) (HRx.out q hq) hn'
        exact this.mono fun e w' ⟨p, r, e1, e2, e3, e4⟩ => ⟨r, e1, ⟨p, e2, e3⟩, e4⟩))
  clear hO hO' hln hln' hn hn' ho hk hi ho' hi' hP hr hr' hi1 hm HRx
  unfold vec at *
  go_enter Try.func24, Try.ntmps24
  have HA0 := Lib.hid (show _ from (((Blk.new w 25 #[.float .f64 a]).alloc (.cells #[.slice (some ⟨g', 0, none⟩) n' c', .int .i64 o', .int .i64 K, .int .i64 i'] 30)).alloc (.cells #[.slice (some ⟨g, 0, none⟩) n c, .int .i64 o, .int .i64 K, .int .i64 i] 30)).cell 0)
  have HB0 := Lib.hid ((((Below.refl w.heap.size w).alloc (Nat.le_refl _) (.cells #[.float .f64 a] 25)).alloc (by simp) (.cells #[.slice (some ⟨g', 0, none⟩) n' c', .int .i64 o', .int .i64 K, .int .i64 i'] 30)).alloc (by simp; omega) (.cells #[.slice (some ⟨g, 0, none⟩) n c, .int .i64 o, .int .i64 K, .int .i64 i] 30))
  have HX := Lib.hid ((Blk.new_ (w.alloc (.cells #[.float .f64 a] 25)) 30 #[.slice (some ⟨g', 0, none⟩) n' c', .int .i64 o', .int .i64 K, .int .i64 i'] (w.heap.size + 1) (by simp)).alloc (.cells #[.slice (some ⟨g, 0, none⟩) n c, .int .i64 o, .int .i64 K, .int .i64 i] 30))
  obtain ⟨x0, x1, x2, x3⟩ := cells4w HX.out
  have HY := Lib.hid (Blk.new_ ((w.alloc (.cells #[.float .f64 a] 25)).alloc (.cells #[.slice (some ⟨g', 0, none⟩) n' c', .int .i64 o', .int .i64 K, .int .i64 i'] 30)) 30 #[.slice (some ⟨g, 0, none⟩) n c, .int .i64 o, .int .i64 K, .int .i64 i] (w.heap.size + 1 + 1) (by simp))
  obtain ⟨y0, y1, y2, y3⟩ := cells4w HY.out
  go_wp2_with fail
  refine (HPr.out _ HB0.out).mono ?_
  rintro e w1 ⟨rfl, hb⟩
  have HB1 := Lib.hid (below_nx HB0.out hb)
  have HA1 := Lib.hid (cell_below HA0.out hb)
  have HX1 := Lib.hid (HX.out.nxt hb)
  have HY1 := Lib.hid (HY.out.nxt hb)
  clear hb x0 x1 x2 x3 y0 y1 y2 y3
  obtain ⟨y0, y1, y2, y3⟩ := cells4w HY1.out
  go_wp2_with fail
  refine (HEa.out _ _ _ HB1.out (Nat.le_refl _) (by omega) HA1.out HX1.out).mono ?_
  rintro e w2 ⟨rfl, m, hm1, hm2, hm3, hm4, hm5⟩
  have HM := Lib.hid (And.intro hm1 (And.intro hm2 (And.intro hm3 hm5)))
  clear hm1 hm2 hm3 hm4 hm5 y0 y1 y2 y3
  go_wp2_with fail
  go_ret
  exact ⟨rfl, m, HM.out.1, HM.out.2.1, HM.out.2.2.1, (Chg.of_below HB1.out).trans HM.out.2.2.2⟩
end Go.Proofs.Ytjjneiidggcfdaa
set_option linter.unusedVariables false
set_option linter.unusedSimpArgs false
namespace Go.Proofs.Ytjjneiidggcfdaa
open Go.RowKit
attribute [local go_sem ↓] Go.wp_at_zero Go.wp_at_succ

set_option maxHeartbeats 1000000 in
theorem axscal_err (a : Nat) (A : Option Addr) (n c : Nat) (off k inc : Int) (w : World) (hn : n < 9223372036854775808) (ho : I64 off) (hk : I64 k) (hi : I64 inc) (hv : vecB n off k inc = false) :
    Calls Try.prog 30 #[.float .f64 a, vec A n c off k inc] w fun e w' => e = .returned (.int .i64 1) ∧ Below w.heap.size w w' := by
  have HR := Lib.hid (fun W => right_any A n c off k inc W hn ho hk hi)
  rw [hv] at HR
  clear hn ho hk hi hv
  unfold vec at *
  go_enter Try.func30, Try.ntmps30
  have HB0 := Lib.hid (((Below.refl w.heap.size w).alloc (Nat.le_refl _) (.cells #[.float .f64 a] 25)).alloc (by simp) (.cells #[.slice A n c, .int .i64 off, .int .i64 k, .int .i64 inc] 30))
  have HX := Lib.hid (Blk.new_ (w.alloc (.cells #[.float .f64 a] 25)) 30 #[.slice A n c, .int .i64 off, .int .i64 k, .int .i64 inc] (w.heap.size + 1) (by simp))
  obtain ⟨x0, x1, x2, x3⟩ := cells4w HX.out
  go_wp2_with fail
  refine (HR.out _).mono ?_
  rintro e w1 ⟨rfl, hb⟩
  have HB1 := Lib.hid (below_nx HB0.out hb)
  clear hb x0 x1 x2 x3
  go_wp2_with fail
  go_ret
  exact ⟨rfl, HB1.out⟩

theorem wrt_whole (l m : List Nat) (K : Nat) (hl : l.length = K) (hm : m.length = K) : wrt l 0 1 m K = m := by
  refine ext_getD (by rw [wrt_length, hl, hm]) fun j hj => ?_
  rw [wrt_length] at hj
  have := wrt_at l 0 1 m K (Nat.le_refl _) (by by_cases h : K = 0; exact .inl h; exact .inr (by omega)) (i := j) (by omega)
  simpa using this
end Go.Proofs.Ytjjneiidggcfdaa
set_option linter.unusedVariables false
set_option linter.unusedSimpArgs false
set_option linter.unnecessarySimpa false
namespace Go.Proofs.Ytjjneiidggcfdaa
open Go.RowKit
attribute [local go_sem ↓] Go.wp_at_zero Go.wp_at_succ

/-- A list that is being made longer by one number. -/
def ApS (Z : Nat) (L : List Value) (R : Nat → Prop) (w wr : World) (db da : Bool) (vb va : Value) (W : World) : Prop :=
  (da = false → Below wr.heap.size wr W ∧ (db = true → ∃ g r, vb = .slice (some ⟨g, 0, none⟩) 1 1 ∧ W.cell? ⟨g, 0, none⟩ = some (.float .f64 r) ∧ R r)) ∧
  (da = true → ∃ r, R r ∧ W.ownsRow Z 25 1 va (L.length + 1) (L ++ [.float .f64 r]) ∧ Below w.heap.size w W)
theorem ApS.nxt {Z : Nat} {L : List Value} {R : Nat → Prop} {w wr : World} {db : Bool} {vb va : Value} {W W' : World} (h : ApS Z L R w wr db false vb va W) (hb : Below W.heap.size W W') : ApS Z L R w wr db false vb va W' :=
  ⟨fun _ => ⟨below_nx (h.1 rfl).1 hb, fun e => by
    obtain ⟨g, r, h1, h2, h3⟩ := (h.1 rfl).2 e
    exact ⟨g, r, h1, cell_below h2 hb, h3⟩⟩, fun e => by cases e⟩
end Go.Proofs.Ytjjneiidggcfdaa
set_option linter.unusedVariables false
set_option linter.unusedSimpArgs false
namespace Go.Proofs.Ytjjneiidggcfdaa
open Go.RowKit
attribute [local go_sem ↓] Go.wp_at_zero Go.wp_at_succ

def ex34 : List Nat := [4613937818241073152, 4616189618054758400]
def ex11 : List Nat := [4607182418800017408, 4607182418800017408]
def ex56 : List Nat := [4617315517961601024, 4618441417868443648]
theorem Comes.det {op : BinOp} {x y r z : Nat} (h : Comes op x y r) (e : floatBits op .f64 x y = some z) : r = z := by
  rcases h.2 with h | ⟨h, _⟩
  · rw [e] at h; injection h with h; exact h.symm
  · rw [e] at h; cases h
theorem ex_mul1 : floatBits .mul .f64 4611686018427387904 4607182418800017408 = some 4611686018427387904 := by decide +kernel
theorem ex_add5 : floatBits .add .f64 4613937818241073152 4611686018427387904 = some 4617315517961601024 := by decide +kernel
theorem ex_add6 : floatBits .add .f64 4616189618054758400 4611686018427387904 = some 4618441417868443648 := by decide +kernel
theorem ex56_wds : Wds ex56 := by intro b hb; simp [ex56] at hb; omega
theorem ex_axpy {m : List Nat} (hl : m.length = 2) (h : ∀ q, q < 2 → AxR 4611686018427387904 ex34 0 1 ex11 0 1 q (m.getD q 0)) : m = ex56 := by
  obtain ⟨p0, h0, k0⟩ := h 0 (by omega)
  obtain ⟨p1, h1, k1⟩ := h 1 (by omega)
  have e0 := h0.det ex_mul1
  have e1 := h1.det ex_mul1
  subst e0 e1
  have f0 := k0.det ex_add5
  have f1 := k1.det ex_add6
  match m, hl with
  | [a, b], _ =>
    simp [List.getD] at f0 f1
    subst f0 f1
    rfl
theorem ex_pair (g : Nat) : pairI (decide (g = g + 1)) 2 0 2 1 2 0 2 1 = 0 := by
  have : decide (g = g + 1) = false := by simp
  rw [this]; decide
set_option maxRecDepth 100000 in
set_option maxHeartbeats 1000000 in
theorem awake6_any (w : World) : Calls Try.prog 21 #[] w fun e w' => e = .returned (.bool true) ∧ Below w.heap.size w w' := by
  have HSc := Lib.hid (fun W => show Calls Try.prog 30 #[.float .f64 4607182418800017408, .agg #[.slice none 0 0, .int .i64 0, .int .i64 0, .int .i64 0]] W fun e w' => e = .returned (.int .i64 1) ∧ Below W.heap.size W w' from
    axscal_err 4607182418800017408 none 0 0 0 0 0 W (by omega) (by unfold I64; omega) (by unfold I64; omega) (by unfold I64; omega) (by decide))
  have HAx := Lib.hid (fun (g : Nat) W (hO : Own W g ex34) (hO' : Own W (g + 1) ex11) => show Calls Try.prog 24 #[.float .f64 4611686018427387904, .agg #[.slice (some ⟨g + 1, 0, none⟩) 2 2, .int .i64 0, .int .i64 2, .int .i64 1], .agg #[.slice (some ⟨g, 0, none⟩) 2 2, .int .i64 0, .int .i64 2, .int .i64 1]] W fun e w' => e = .returned (.int .i64 0) ∧ Own w' g ex56 ∧ Chg [g] W w' from by
    refine (axpy_ok 4611686018427387904 g (g + 1) 2 2 ex34 ex11 2 2 0 2 1 0 1 W hO hO' rfl rfl (by omega) (by omega) (by omega) (by omega) (by omega) (by unfold I64; omega) (by unfold I64; omega) (by unfold I64; omega) (by unfold I64; omega) (by unfold I64; omega) (ex_pair g) (fun e => by omega)).mono ?_
    rintro e w' ⟨rfl, m, h1, h2, h3, h4⟩
    rw [wrt_whole ex34 m 2 rfl h1, ex_axpy h1 h2] at h3
    exact ⟨rfl, h3, h4⟩)
  have HAl := Lib.hid (fun (A B : Option Addr) (W : World) (h : Row W A (f64s ex56)) (h' : Row W B (f64s ex56)) => show Calls Try.prog 26 #[.slice A 2 2, .slice B 2 2] W fun e w' => e = .returned (.bool true) ∧ Below W.heap.size W w' from
    rall_any A B 2 2 ex56 ex56 W ex56_wds ex56_wds h h' (by decide) (Alike.refl _))
  have HB0 := Lib.hid ((Below.refl w.heap.size w))
  go_enter Try.func21, Try.ntmps21
  go_wp2_with fail
  refine (HSc.out _).mono ?_
  rintro e w1 ⟨rfl, hb⟩
  have HB1 := Lib.hid hb
  clear hb
  go_wp2_with fail
  have HO := Lib.hid (own_blk ((Blk.new w1 25 (f64s ex34).toArray).alloc (.cells (f64s ex11).toArray 25)))
  have HO' := Lib.hid (own_blk (Blk.new_ (w1.alloc (.cells (f64s ex34).toArray 25)) 25 (f64s ex11).toArray (w1.heap.size + 1) (by simp)))
  have HB2 := Lib.hid (below_al (below_al HB1.out (o := (.cells (f64s ex34).toArray 25))) (o := (.cells (f64s ex11).toArray 25)))
  refine (HAx.out _ _ HO.out HO'.out).mono ?_
  rintro e w2 ⟨rfl, ho, hc⟩
  have HO2 := Lib.hid ho
  have HB3 := Lib.hid (hc.below HB2.out HB2.out.size (by intro g hg; simp at hg; subst hg; exact HB1.out.size))
  clear ho hc
  go_wp2_with fail
  have HR1 := Lib.hid (HO2.out.nxt (below_one (o := (.cells (f64s ex56).toArray 25)))).row
  have HR2 := Lib.hid (own_blk (Blk.new w2 25 (f64s ex56).toArray)).row
  have HB4 := Lib.hid (below_al HB3.out (o := (.cells (f64s ex56).toArray 25)))
  refine (HAl.out _ _ _ HR1.out HR2.out).mono ?_
  rintro e w3 ⟨rfl, hb⟩
  have HB5 := Lib.hid (below_nx HB4.out hb)
  clear hb
  go_wp2_with fail
  go_ret
  exact ⟨rfl, HB5.out⟩
end Go.Proofs.Ytjjneiidggcfdaa
set_option linter.unusedVariables false
set_option linter.unusedSimpArgs false
set_option linter.unnecessarySimpa false
namespace Go.Proofs.Ytjjneiidggcfdaa
open Go.RowKit
attribute [local go_sem ↓] Go.wp_at_zero Go.wp_at_succ

theorem own_one {W : World} {g y : Nat} (h : Blk W g 25 #[.float .f64 y]) : Own W g [y] := own_blk (by simpa [f64s] using h)
theorem own_three {W : World} {g a x y : Nat} (h : Blk W g 25 #[.float .f64 a, .float .f64 x, .float .f64 y]) : Own W g [a, x, y] := own_blk (by simpa [f64s] using h)
theorem one_pair {g g' : Nat} (h : g ≠ g') : pairI (decide (g = g')) 1 0 1 1 1 0 1 1 = 0 := by
  rw [decide_eq_false h]; decide
theorem axclose_cmp {a x y p r : Nat} (h1 : Ieee.double.mul a x = some p) (h2 : Ieee.double.add y p = some r) (hr : Fl.rung r < Fl.INF) :
    ∃ Z : Int, dabs (fdy r - fdy a * fdy x - fdy y) - ((dabs (fdy a * fdy x) + dabs (fdy y)) * dy 1 (-52) + dy 1 0 * dy 1 (-1074)) = dy Z (-2200) ∧ Z ≤ 0 := by
  have hc := Fl.axpy_err h1 h2 hr
  obtain ⟨k, hk⟩ : ∃ k, k = 1074 := ⟨_, rfl⟩
  rw [← hk] at hc
  have e1 : ∀ b, fdy b = dy (Fl.val b * 2 ^ k) (-2148) := fun b => by unfold fdy; rw [dy_pow]; congr 1; omega
  have e2 : ((2 ^ k : Nat) : Int) = (2 : Int) ^ k := by simp
  rw [e2] at hc
  have e3 : dy 1 0 * dy 1 (-1074) = dy (1 * 2 ^ (52 + k)) (-2200) := by rw [dy_one, dy_pow]; congr 1; omega
  have e4 : ∀ z : Int, dy z (-2148) = dy (z * 2 ^ 52) (-2200) := fun z => by rw [dy_pow]; congr 1
  rw [fdy_mul, e1 r, e1 y, dy_sub, dy_sub, dabs_dy, dabs_dy, dabs_dy, dy_add, e4, dy_one, show ((-2148 : Int) + -52) = -2200 by omega, e3, dy_add, dy_sub]
  refine ⟨_, rfl, ?_⟩
  have e5 : (1 : Int) * 2 ^ (52 + k) = ((4503599627370496 * 2 ^ k : Nat) : Int) := by
    rw [Int.one_mul, Int.pow_add]; simp
  rw [e5]
  have e6 : (Fl.val y * 2 ^ k).natAbs = (Fl.val y).natAbs * 2 ^ k := by rw [Int.natAbs_mul, Int.natAbs_pow]; rfl
  rw [← e6] at hc
  have e7 : (2 : Int) ^ 52 = 4503599627370496 := by decide
  rw [e7]
  generalize Fl.val r * 2 ^ k - Fl.val a * Fl.val x - Fl.val y * 2 ^ k = D at *
  generalize Fl.val y * 2 ^ k = Y at *
  generalize Fl.val a * Fl.val x = P at *
  generalize 4503599627370496 * 2 ^ k = Q at *
  omega

set_option maxRecDepth 100000 in
set_option maxHeartbeats 4000000 in
theorem axesClose_walk (a x y : Nat) (w : World) (ha : a < 18446744073709551616) (hx : x < 18446744073709551616) (hy : y < 18446744073709551616) :
    Calls Try.prog 6 #[.float .f64 a, .float .f64 x, .float .f64 y] w fun e w' => e = .returned (.bool true) ∧ Below w.heap.size w w' := by
  have HW := Lib.hid (show Wds [a, x, y] by intro b hb; simp at hb; omega)
  have HWs := Lib.hid (And.intro ha (And.intro hx hy))
  have HAx := Lib.hid (fun (g g' : Nat) (hg : g ≠ g') W (hO : Own W g [y]) (hO' : Own W g' [x]) => show Calls Try.prog 24 #[.float .f64 a, .agg #[.slice (some ⟨g', 0, none⟩) 1 1, .int .i64 0, .int .i64 1, .int .i64 1], .agg #[.slice (some ⟨g, 0, none⟩) 1 1, .int .i64 0, .int .i64 1, .int .i64 1]] W fun e w' => e = .returned (.int .i64 0) ∧ ∃ r p, Comes .mul a x p ∧ Comes .add y p r ∧ Own w' g [r] ∧ Chg [g] W w' from by
    refine (axpy_ok a g g' 1 1 [y] [x] 1 1 0 1 1 0 1 W hO hO' rfl rfl (by omega) (by omega) (by omega) (by omega) (by omega) (by unfold I64; omega) (by unfold I64; omega) (by unfold I64; omega) (by unfold I64; omega) (by unfold I64; omega) (one_pair hg) (fun e => absurd e hg)).mono ?_
    rintro e w' ⟨rfl, m, h1, h2, h3, h4⟩
    rw [wrt_whole [y] m 1 rfl h1] at h3
    obtain ⟨p, hp1, hp2⟩ := h2 0 (by omega)
    match m, h1, h3, hp2 with
    | [r], _, h3, hp2 => exact ⟨rfl, r, p, hp1, hp2, h3, h4⟩)
  clear ha hx hy
  go_enter Try.func6, Try.ntmps6
  go_wp2_with fail
  refine (awake6_any _).mono ?_
  rintro e w1 ⟨rfl, hb⟩
  have HB1 := Lib.hid hb
  clear hb
  go_wp2_with fail
  have HOy := Lib.hid ((own_one (Blk.new w1 25 #[.float .f64 y])).nxt (below_one (o := (.cells #[.float .f64 a, .float .f64 x, .float .f64 y] 25))))
  have HRl := Lib.hid (own_three (Blk.new_ (w1.alloc (.cells #[.float .f64 y] 25)) 25 #[.float .f64 a, .float .f64 x, .float .f64 y] (w1.heap.size + 1) (by simp))).row
  have HB2 := Lib.hid (below_al (below_al HB1.out (o := (.cells #[.float .f64 y] 25))) (o := (.cells #[.float .f64 a, .float .f64 x, .float .f64 y] 25)))
  have HG := Lib.hid HB1.out.size
  refine (rfin_any _ 3 3 [a, x, y] _ HRl.out HW.out rfl (by omega)).mono ?_
  rintro e w2 ⟨rfl, rfl⟩
  obtain ⟨fb, hfb⟩ : ∃ fb, [a, x, y].all Fl.fin = fb := ⟨_, rfl⟩
  rw [hfb]
  have HFb := Lib.hid hfb
  obtain ⟨g, hg⟩ : ∃ g, w1.heap.size = g := ⟨_, rfl⟩
  have hsz : ((w1.alloc (.cells #[.float .f64 y] 25)).alloc (.cells #[.float .f64 a, .float .f64 x, .float .f64 y] 25)).heap.size = g + 1 + 1 := by rw [← hg]; simp
  rw [hg] at HOy HG
  rw [hg]
  clear hfb HRl
  generalize ((w1.alloc (.cells #[.float .f64 y] 25)).alloc (.cells #[.float .f64 a, .float .f64 x, .float .f64 y] 25)) = w2 at *
  have HSz := Lib.hid hsz
  clear hsz hg
  cases fb
  · go_wp2_with fail
    refine (awake6_any _).mono ?_
    rintro e w9 ⟨rfl, hb⟩
    have HB9 := Lib.hid (below_nx HB2.out hb)
    clear hb
    go_wp2_with fail
    go_ret
    exact ⟨rfl, HB9.out⟩
  go_wp2_with fail
  have HOx := Lib.hid (own_one (Blk.new w2 25 #[.float .f64 x]))
  have HOy3 := Lib.hid (HOy.out.nxt (below_one (o := (.cells #[.float .f64 x] 25))))
  have HB3 := Lib.hid (below_al HB2.out (o := (.cells #[.float .f64 x] 25)))
  refine (HAx.out g w2.heap.size (by rw [HSz.out]; omega) _ HOy3.out HOx.out).mono ?_
  rintro e w4 ⟨rfl, r, p, hp, hr, ho, hc⟩
  have HOr := Lib.hid ho
  have HPr := Lib.hid (And.intro hp hr)
  have HB4 := Lib.hid (hc.below HB3.out HB3.out.size (by intro z hz; simp at hz; subst hz; exact HG.out))
  clear hp hr ho hc
  go_wp2_with fail
  refine (rfin_any _ 1 1 [r] _ HOr.out.row (by intro b hb; simp at hb; subst hb; exact HPr.out.2.1) rfl (by omega)).mono ?_
  rintro e w5 ⟨rfl, rfl⟩
  have hfr : [r].all Fl.fin = Fl.fin r := by simp
  rw [hfr]
  obtain ⟨fb, hfb⟩ : ∃ fb, Fl.fin r = fb := ⟨_, rfl⟩
  rw [hfb]
  have HFb2 := Lib.hid hfb
  clear hfr hfb
  cases fb
  · go_wp2_with fail
    refine (awake6_any _).mono ?_
    rintro e w9 ⟨rfl, hb⟩
    have HB9 := Lib.hid (below_nx HB4.out hb)
    clear hb
    go_wp2_with fail
    go_ret
    exact ⟨rfl, HB9.out⟩
  have HFa := Lib.hid (show (a < 18446744073709551616 ∧ Fl.rung a < Fl.INF) ∧ (x < 18446744073709551616 ∧ Fl.rung x < Fl.INF) ∧ (y < 18446744073709551616 ∧ Fl.rung y < Fl.INF) ∧ (r < 18446744073709551616 ∧ Fl.rung r < Fl.INF) from by
    have h := HFb.out
    simp at h
    exact ⟨⟨HWs.out.1, of_decide_eq_true h.1⟩, ⟨HWs.out.2.1, of_decide_eq_true h.2.1⟩, ⟨HWs.out.2.2, of_decide_eq_true h.2.2⟩, ⟨HPr.out.2.1, of_decide_eq_true HFb2.out⟩⟩)
  have HFr := Lib.hid HFa.out.2.2.2
  have HFy := Lib.hid HFa.out.2.2.1
  have HZ := Lib.hid (show ∃ Z : Int, dabs (fdy r - fdy a * fdy x - fdy y) - ((dabs (fdy a * fdy x) + dabs (fdy y)) * dy 1 (-52) + dy 1 0 * dy 1 (-1074)) = dy Z (-2200) ∧ Z ≤ 0 from by
    have h2 : Ieee.double.add y p = some r := by
      rcases HPr.out.2.2 with h | ⟨_, h⟩
      · exact h
      · exfalso
        have := HFr.out.2
        have h := of_decide_eq_true h
        omega
    have hfp := (Fl.add_back h2 HFr.out.2).2
    have h1 : Ieee.double.mul a x = some p := by
      rcases HPr.out.1.2 with h | ⟨_, h⟩
      · exact h
      · exfalso
        have h := of_decide_eq_true h
        omega
    exact axclose_cmp h1 h2 HFr.out.2)
  have HCr4 := Lib.hid (show w4.cell? ⟨g, 0, none⟩ = some (.float .f64 r) from by
    obtain ⟨b, o, e, hc⟩ := HOr.out.row.get0 (k := 0) (by simp)
    injection e with e; injection e with e1 e2
    subst e1 e2
    simpa using hc)
  have HFt0 := Lib.hid (show Fitd (fdy a) ∧ Fitd (fdy x) from ⟨(Sz.float HFa.out.1.2).fit (by omega), (Sz.float HFa.out.2.1.2).fit (by omega)⟩)
  have HFt := Lib.hid (show Fitd (fdy r) ∧ Fitd (fdy a * fdy x) ∧ Fitd (fdy r - fdy a * fdy x) ∧ Fitd (fdy y) ∧ Fitd (dabs (fdy r - fdy a * fdy x - fdy y)) ∧ Fitd (dabs (fdy a * fdy x)) ∧ Fitd (dabs (fdy y)) ∧ Fitd (dabs (fdy a * fdy x) + dabs (fdy y)) ∧ Fitd ((dabs (fdy a * fdy x) + dabs (fdy y)) * dy 1 (-52)) ∧ Fitd (dy 1 0) ∧ Fitd (dy 1 0 * dy 1 (-1074)) ∧ Fitd ((dabs (fdy a * fdy x) + dabs (fdy y)) * dy 1 (-52) + dy 1 0 * dy 1 (-1074)) from by
    have sr := Sz.float HFr.out.2
    have sy := Sz.float HFy.out.2
    have sp : Sz 2148 (fdy a * fdy x) := (Sz.float HFa.out.1.2).mul (Sz.float HFa.out.2.1.2) (by omega)
    have s1 : Sz 2149 (fdy r - fdy a * fdy x) := Sz.sub sr sp (by omega) (by omega)
    have s2 : Sz 2150 (fdy r - fdy a * fdy x - fdy y) := Sz.sub s1 sy (by omega) (by omega)
    have s3 : Sz 2150 (dabs (fdy a * fdy x) + dabs (fdy y)) := Sz.add sp.abs sy.abs (by omega) (by omega)
    have s4 : Sz 2300 ((dabs (fdy a * fdy x) + dabs (fdy y)) * dy 1 (-52)) := s3.shift (-52) (by omega)
    have s5 : Sz 1 (dy 1 0) := Sz.int (by omega)
    have s6 : Sz 1100 (dy 1 0 * dy 1 (-1074)) := s5.shift (-1074) (by omega)
    exact ⟨sr.fit (by omega), sp.fit (by omega), s1.fit (by omega), sy.fit (by omega), s2.abs.fit (by omega), sp.abs.fit (by omega), sy.abs.fit (by omega), s3.fit (by omega), s4.fit (by omega), s5.fit (by omega), s6.fit (by omega), (Sz.add (n := 2400) s4 s6 (by omega) (by omega)).fit (by omega)⟩)
  clear HOy HOx HOy3 HAx
  go_wp2_with fail
  refine (rof_v a _ HFa.out.1.1 HFa.out.1.2).mono ?_
  rintro e w6 ⟨v1, rfl, hv, hb⟩
  have HV1 := Lib.hid hv
  have HB6 := Lib.hid (below_nx HB4.out hb)
  have HCr6 := Lib.hid (cell_below HCr4.out hb)
  clear hv hb
  go_wp2_with fail
  refine (rof_v x _ HFa.out.2.1.1 HFa.out.2.1.2).mono ?_
  rintro e w7 ⟨v2, rfl, hv, hb⟩
  have HV2 := Lib.hid hv
  have HV1b := Lib.hid (HV1.out.below hb)
  have HB7 := Lib.hid (below_nx HB6.out hb)
  have HCr7 := Lib.hid (cell_below HCr6.out hb)
  clear hv hb
  go_wp2_with fail
  refine (rmul_v HV1b.out HV2.out HFt0.out.1 HFt0.out.2).mono ?_
  rintro e w8 ⟨v3, rfl, ⟨ngp, Ap, np, cp, Ep, Lp, rfl, hRp, hNp, hdp⟩, hb⟩
  have HB8 := Lib.hid (below_nx HB7.out hb)
  have HCr8 := Lib.hid (cell_below HCr7.out hb)
  obtain ⟨D1, hD1⟩ : ∃ D1, fdy a * fdy x = D1 := ⟨_, rfl⟩
  rw [hD1] at HZ HFt hdp
  have HCr := Lib.hid (cell_below HCr8.out (below_one (o := (.cells #[.bool ngp, .slice Ap np cp, .int .i64 Ep] 34))))
  have HXp := Lib.hid (Blk.new w8 34 #[.bool ngp, .slice Ap np cp, .int .i64 Ep])
  have HDVp := Lib.hid (fun W (hb : Below (w8.alloc (.cells #[.bool ngp, .slice Ap np cp, .int .i64 Ep] 34)).heap.size (w8.alloc (.cells #[.bool ngp, .slice Ap np cp, .int .i64 Ep] 34)) W) => (show DV (w8.alloc (.cells #[.bool ngp, .slice Ap np cp, .int .i64 Ep] 34)) (.agg #[.bool ngp, .slice Ap np cp, .int .i64 Ep]) D1 from ⟨ngp, Ap, np, cp, Ep, Lp, rfl, hRp.below below_one, hNp, hdp⟩).below hb)
  have HBq := Lib.hid (below_al HB8.out (o := (.cells #[.bool ngp, .slice Ap np cp, .int .i64 Ep] 34)))
  clear hRp hNp hdp hb hD1 HCr4 HCr6 HCr7 HCr8
  go_wp2_with fail
  generalize hgp : w8.heap.size = gp at *
  generalize (w8.alloc (.cells #[.bool ngp, .slice Ap np cp, .int .i64 Ep] 34)) = wq at *
  clear hgp
  refine wp_region_inv [41, 42, 43, 44, 45, 46, 47, 48, 49, 50, 10] (fun d s W => (d 0 = true → s 41 = .slice (some ⟨g, 0, none⟩) 1 1) ∧ (d 1 = true → s 42 = .pointer (some ⟨g, 0, none⟩)) ∧ (d 2 = true → s 43 = .float .f64 r) ∧ (d 3 = true → DV W (s 44) (fdy r)) ∧ (d 4 = true → s 45 = .agg #[.bool ngp, .slice Ap np cp, .int .i64 Ep]) ∧ (d 5 = true → DV W (s 46) (fdy r - D1)) ∧ (d 6 = true → s 47 = .float .f64 y) ∧ (d 7 = true → DV W (s 48) (fdy y)) ∧ (d 8 = true → DV W (s 49) (fdy r - D1 - fdy y)) ∧ (d 9 = true → DV W (s 50) (dabs (fdy r - D1 - fdy y))) ∧ (d 10 = true → NewB W (s 10) wq.heap.size) ∧ (d 1 = true → d 0 = true) ∧ (d 2 = true → d 0 = true ∧ d 1 = true) ∧ (d 3 = true → d 0 = true ∧ d 1 = true ∧ d 2 = true) ∧ (d 5 = true → d 0 = true ∧ d 1 = true ∧ d 2 = true ∧ d 3 = true ∧ d 4 = true) ∧ (d 7 = true → d 6 = true) ∧ (d 8 = true → d 0 = true ∧ d 1 = true ∧ d 2 = true ∧ d 3 = true ∧ d 4 = true ∧ d 5 = true ∧ d 6 = true ∧ d 7 = true) ∧ (d 9 = true → d 0 = true ∧ d 1 = true ∧ d 2 = true ∧ d 3 = true ∧ d 4 = true ∧ d 5 = true ∧ d 6 = true ∧ d 7 = true ∧ d 8 = true) ∧ (d 11 = true → d 0 = true ∧ d 1 = true ∧ d 2 = true ∧ d 3 = true ∧ d 4 = true ∧ d 5 = true ∧ d 6 = true ∧ d 7 = true ∧ d 8 = true ∧ d 9 = true ∧ d 10 = true) ∧ ((d 11 = false → Below wq.heap.size wq W) ∧ (d 11 = true → BxP W (s 10) wq.heap.size (dabs (fdy r - D1 - fdy y)) ∧ Below wq.heap.size wq W)))
    rfl (by kernel_rfl) ?_ ?_ ?_
  · exact ⟨by simp, by simp, by simp, by simp, by simp, by simp, by simp, by simp, by simp, by simp, by simp, by simp, by simp, by simp, by simp, by simp, by simp, by simp, by simp, ⟨fun _ => (Below.refl _ _).drew, fun h => by simp at h⟩⟩
  · refine ⟨?_, ?_, ?_, ?_, ?_, ?_, ?_, ?_, ?_, ?_, ?_, ?_, trivial⟩
    all_goals
      intro d s W hJ hfr hd hdep
      simp only [List.mem_cons, forall_eq_or_imp, List.not_mem_nil, false_implies, implies_true, and_true, Region.binds] at hdep
      have f2 := hfr 2 (by decide)
      have f7 := hfr 7 (by decide)
      have f9 := hfr 9 (by decide)
      simp at f2 f7 f9 hdep
      obtain ⟨h0, h1, h2, h3, h4, h5, h6, h7, h8, h9, h10, x0, x1, x2, x3, x4, x5, x6, x7, hT⟩ := hJ
    · have hl : d 11 = false := by
        cases h : d 11
        · rfl
        · have := x7 h; simp [hd] at this
      replace hT := hT.1 hl
      unfold OpSteps
      simp [go_sem, evS, f7]
      exact ⟨fun _ => by simp [sput], fun h => by simpa [sput] using h1 (by simpa [did] using h), fun h => by simpa [sput] using h2 (by simpa [did] using h), fun h => by simpa [sput] using h3 (by simpa [did] using h), fun h => by simpa [sput] using h4 (by simpa [did] using h), fun h => by simpa [sput] using h5 (by simpa [did] using h), fun h => by simpa [sput] using h6 (by simpa [did] using h), fun h => by simpa [sput] using h7 (by simpa [did] using h), fun h => by simpa [sput] using h8 (by simpa [did] using h), fun h => by simpa [sput] using h9 (by simpa [did] using h), fun h => by simpa [sput] using h10 (by simpa [did] using h), fun h => by have := x0 (by simpa [did] using h); simp [did, this], fun h => by have := x1 (by simpa [did] using h); simp [did, this], fun h => by have := x2 (by simpa [did] using h); simp [did, this], fun h => by have := x3 (by simpa [did] using h); simp [did, this], fun h => by have := x4 (by simpa [did] using h); simp [did, this], fun h => by have := x5 (by simpa [did] using h); simp [did, this], fun h => by have := x6 (by simpa [did] using h); simp [did, this], fun h => by have := x7 (by simpa [did] using h); simp [did, this], ⟨fun _ => hT, fun h => by simp [did, hl] at h⟩⟩
    · have hl : d 11 = false := by
        cases h : d 11
        · rfl
        · have := x7 h; simp [hd] at this
      replace hT := hT.1 hl
      have fz0 := h0 (by simp [hdep])
      unfold OpSteps
      simp [go_sem, evS, fz0]
      exact ⟨fun h => by simpa [sput] using h0 (by simpa [did] using h), fun _ => by simp [sput], fun h => by simpa [sput] using h2 (by simpa [did] using h), fun h => by simpa [sput] using h3 (by simpa [did] using h), fun h => by simpa [sput] using h4 (by simpa [did] using h), fun h => by simpa [sput] using h5 (by simpa [did] using h), fun h => by simpa [sput] using h6 (by simpa [did] using h), fun h => by simpa [sput] using h7 (by simpa [did] using h), fun h => by simpa [sput] using h8 (by simpa [did] using h), fun h => by simpa [sput] using h9 (by simpa [did] using h), fun h => by simpa [sput] using h10 (by simpa [did] using h), fun _ => by simp [did, hdep], fun h => by have := x1 (by simpa [did] using h); simp [did, this], fun h => by have := x2 (by simpa [did] using h); simp [did, this], fun h => by have := x3 (by simpa [did] using h); simp [did, this], fun h => by have := x4 (by simpa [did] using h); simp [did, this], fun h => by have := x5 (by simpa [did] using h); simp [did, this], fun h => by have := x6 (by simpa [did] using h); simp [did, this], fun h => by have := x7 (by simpa [did] using h); simp [did, this], ⟨fun _ => hT, fun h => by simp [did, hl] at h⟩⟩
    · have hl : d 11 = false := by
        cases h : d 11
        · rfl
        · have := x7 h; simp [hd] at this
      replace hT := hT.1 hl
      have fz1 := h1 (by simp [hdep])
      unfold OpSteps
      have pc := cell_below HCr.out hT
      simp [go_sem, evS, fz1, pc]
      exact ⟨fun h => by simpa [sput] using h0 (by simpa [did] using h), fun h => by simpa [sput] using h1 (by simpa [did] using h), fun _ => by simp [sput], fun h => by simpa [sput] using h3 (by simpa [did] using h), fun h => by simpa [sput] using h4 (by simpa [did] using h), fun h => by simpa [sput] using h5 (by simpa [did] using h), fun h => by simpa [sput] using h6 (by simpa [did] using h), fun h => by simpa [sput] using h7 (by simpa [did] using h), fun h => by simpa [sput] using h8 (by simpa [did] using h), fun h => by simpa [sput] using h9 (by simpa [did] using h), fun h => by simpa [sput] using h10 (by simpa [did] using h), fun h => by have := x0 (by simpa [did] using h); simp [did, this], fun _ => by have y1 := x0 (by simp [hdep]); simp [did, hdep, y1], fun h => by have := x2 (by simpa [did] using h); simp [did, this], fun h => by have := x3 (by simpa [did] using h); simp [did, this], fun h => by have := x4 (by simpa [did] using h); simp [did, this], fun h => by have := x5 (by simpa [did] using h); simp [did, this], fun h => by have := x6 (by simpa [did] using h); simp [did, this], fun h => by have := x7 (by simpa [did] using h); simp [did, this], ⟨fun _ => hT, fun h => by simp [did, hl] at h⟩⟩
    · have hl : d 11 = false := by
        cases h : d 11
        · rfl
        · have := x7 h; simp [hd] at this
      replace hT := hT.1 hl
      have fz2 := h2 (by simp [hdep])
      unfold OpSteps
      simp [go_sem, evS, fz2]
      refine (rof_v r W HFr.out.1 HFr.out.2).mono ?_
      rintro e W' ⟨v9, rfl, hv, hb⟩
      refine ⟨_, rfl, ?_⟩
      exact ⟨fun h => by simpa [sput] using h0 (by simpa [did] using h), fun h => by simpa [sput] using h1 (by simpa [did] using h), fun h => by simpa [sput] using h2 (by simpa [did] using h), fun _ => by simpa [sput] using hv, fun h => by simpa [sput] using h4 (by simpa [did] using h), fun h => by simpa [sput] using (h5 (by simpa [did] using h)).below hb, fun h => by simpa [sput] using h6 (by simpa [did] using h), fun h => by simpa [sput] using (h7 (by simpa [did] using h)).below hb, fun h => by simpa [sput] using (h8 (by simpa [did] using h)).below hb, fun h => by simpa [sput] using (h9 (by simpa [did] using h)).below hb, fun h => by simpa [sput] using (h10 (by simpa [did] using h)).below hb, fun h => by have := x0 (by simpa [did] using h); simp [did, this], fun h => by have := x1 (by simpa [did] using h); simp [did, this], fun _ => by have y2 := x1 (by simp [hdep]); simp [did, hdep, y2], fun h => by have := x3 (by simpa [did] using h); simp [did, this], fun h => by have := x4 (by simpa [did] using h); simp [did, this], fun h => by have := x5 (by simpa [did] using h); simp [did, this], fun h => by have := x6 (by simpa [did] using h); simp [did, this], fun h => by have := x7 (by simpa [did] using h); simp [did, this], ⟨fun _ => below_nx hT hb, fun h => by simp [did, hl] at h⟩⟩
    · have hl : d 11 = false := by
        cases h : d 11
        · rfl
        · have := x7 h; simp [hd] at this
      replace hT := hT.1 hl
      unfold OpSteps
      obtain ⟨p0, p1, p2⟩ := cells3 (HXp.out.below hT HXp.out.lt)
      simp [go_sem, evS, f9, p0, p1, p2]
      exact ⟨fun h => by simpa [sput] using h0 (by simpa [did] using h), fun h => by simpa [sput] using h1 (by simpa [did] using h), fun h => by simpa [sput] using h2 (by simpa [did] using h), fun h => by simpa [sput] using h3 (by simpa [did] using h), fun _ => by simp [sput], fun h => by simpa [sput] using h5 (by simpa [did] using h), fun h => by simpa [sput] using h6 (by simpa [did] using h), fun h => by simpa [sput] using h7 (by simpa [did] using h), fun h => by simpa [sput] using h8 (by simpa [did] using h), fun h => by simpa [sput] using h9 (by simpa [did] using h), fun h => by simpa [sput] using h10 (by simpa [did] using h), fun h => by have := x0 (by simpa [did] using h); simp [did, this], fun h => by have := x1 (by simpa [did] using h); simp [did, this], fun h => by have := x2 (by simpa [did] using h); simp [did, this], fun h => by have := x3 (by simpa [did] using h); simp [did, this], fun h => by have := x4 (by simpa [did] using h); simp [did, this], fun h => by have := x5 (by simpa [did] using h); simp [did, this], fun h => by have := x6 (by simpa [did] using h); simp [did, this], fun h => by have := x7 (by simpa [did] using h); simp [did, this], ⟨fun _ => hT, fun h => by simp [did, hl] at h⟩⟩
    · have hl : d 11 = false := by
        cases h : d 11
        · rfl
        · have := x7 h; simp [hd] at this
      replace hT := hT.1 hl
      have fz3 := h3 (by simp [hdep])
      have fz4 := h4 (by simp [hdep])
      unfold OpSteps
      simp [go_sem, evS, fz3, fz4]
      refine (rsub_v fz3 (HDVp.out W hT) HFt.out.1 HFt.out.2.1).mono ?_
      rintro e W' ⟨v9, rfl, hv, hb⟩
      refine ⟨_, rfl, ?_⟩
      exact ⟨fun h => by simpa [sput] using h0 (by simpa [did] using h), fun h => by simpa [sput] using h1 (by simpa [did] using h), fun h => by simpa [sput] using h2 (by simpa [did] using h), fun h => by simpa [sput] using (h3 (by simpa [did] using h)).below hb, fun h => by simpa [sput] using h4 (by simpa [did] using h), fun _ => by simpa [sput] using hv, fun h => by simpa [sput] using h6 (by simpa [did] using h), fun h => by simpa [sput] using (h7 (by simpa [did] using h)).below hb, fun h => by simpa [sput] using (h8 (by simpa [did] using h)).below hb, fun h => by simpa [sput] using (h9 (by simpa [did] using h)).below hb, fun h => by simpa [sput] using (h10 (by simpa [did] using h)).below hb, fun h => by have := x0 (by simpa [did] using h); simp [did, this], fun h => by have := x1 (by simpa [did] using h); simp [did, this], fun h => by have := x2 (by simpa [did] using h); simp [did, this], fun _ => by have y3 := x2 (by simp [hdep]); simp [did, hdep, y3], fun h => by have := x4 (by simpa [did] using h); simp [did, this], fun h => by have := x5 (by simpa [did] using h); simp [did, this], fun h => by have := x6 (by simpa [did] using h); simp [did, this], fun h => by have := x7 (by simpa [did] using h); simp [did, this], ⟨fun _ => below_nx hT hb, fun h => by simp [did, hl] at h⟩⟩
    · have hl : d 11 = false := by
        cases h : d 11
        · rfl
        · have := x7 h; simp [hd] at this
      replace hT := hT.1 hl
      unfold OpSteps
      simp [go_sem, evS, f2]
      exact ⟨fun h => by simpa [sput] using h0 (by simpa [did] using h), fun h => by simpa [sput] using h1 (by simpa [did] using h), fun h => by simpa [sput] using h2 (by simpa [did] using h), fun h => by simpa [sput] using h3 (by simpa [did] using h), fun h => by simpa [sput] using h4 (by simpa [did] using h), fun h => by simpa [sput] using h5 (by simpa [did] using h), fun _ => by simp [sput], fun h => by simpa [sput] using h7 (by simpa [did] using h), fun h => by simpa [sput] using h8 (by simpa [did] using h), fun h => by simpa [sput] using h9 (by simpa [did] using h), fun h => by simpa [sput] using h10 (by simpa [did] using h), fun h => by have := x0 (by simpa [did] using h); simp [did, this], fun h => by have := x1 (by simpa [did] using h); simp [did, this], fun h => by have := x2 (by simpa [did] using h); simp [did, this], fun h => by have := x3 (by simpa [did] using h); simp [did, this], fun h => by have := x4 (by simpa [did] using h); simp [did, this], fun h => by have := x5 (by simpa [did] using h); simp [did, this], fun h => by have := x6 (by simpa [did] using h); simp [did, this], fun h => by have := x7 (by simpa [did] using h); simp [did, this], ⟨fun _ => hT, fun h => by simp [did, hl] at h⟩⟩
    · have hl : d 11 = false := by
        cases h : d 11
        · rfl
        · have := x7 h; simp [hd] at this
      replace hT := hT.1 hl
      have fz6 := h6 (by simp [hdep])
      unfold OpSteps
      simp [go_sem, evS, fz6]
      refine (rof_v y W HFy.out.1 HFy.out.2).mono ?_
      rintro e W' ⟨v9, rfl, hv, hb⟩
      refine ⟨_, rfl, ?_⟩
      exact ⟨fun h => by simpa [sput] using h0 (by simpa [did] using h), fun h => by simpa [sput] using h1 (by simpa [did] using h), fun h => by simpa [sput] using h2 (by simpa [did] using h), fun h => by simpa [sput] using (h3 (by simpa [did] using h)).below hb, fun h => by simpa [sput] using h4 (by simpa [did] using h), fun h => by simpa [sput] using (h5 (by simpa [did] using h)).below hb, fun h => by simpa [sput] using h6 (by simpa [did] using h), fun _ => by simpa [sput] using hv, fun h => by simpa [sput] using (h8 (by simpa [did] using h)).below hb, fun h => by simpa [sput] using (h9 (by simpa [did] using h)).below hb, fun h => by simpa [sput] using (h10 (by simpa [did] using h)).below hb, fun h => by have := x0 (by simpa [did] using h); simp [did, this], fun h => by have := x1 (by simpa [did] using h); simp [did, this], fun h => by have := x2 (by simpa [did] using h); simp [did, this], fun h => by have := x3 (by simpa [did] using h); simp [did, this], fun _ => by simp [did, hdep], fun h => by have := x5 (by simpa [did] using h); simp [did, this], fun h => by have := x6 (by simpa [did] using h); simp [did, this], fun h => by have := x7 (by simpa [did] using h); simp [did, this], ⟨fun _ => below_nx hT hb, fun h => by simp [did, hl] at h⟩⟩
    · have hl : d 11 = false := by
        cases h : d 11
        · rfl
        · have := x7 h; simp [hd] at this
      replace hT := hT.1 hl
      have fz5 := h5 (by simp [hdep])
      have fz7 := h7 (by simp [hdep])
      unfold OpSteps
      simp [go_sem, evS, fz5, fz7]
      refine (rsub_v fz5 fz7 HFt.out.2.2.1 HFt.out.2.2.2.1).mono ?_
      rintro e W' ⟨v9, rfl, hv, hb⟩
      refine ⟨_, rfl, ?_⟩
      exact ⟨fun h => by simpa [sput] using h0 (by simpa [did] using h), fun h => by simpa [sput] using h1 (by simpa [did] using h), fun h => by simpa [sput] using h2 (by simpa [did] using h), fun h => by simpa [sput] using (h3 (by simpa [did] using h)).below hb, fun h => by simpa [sput] using h4 (by simpa [did] using h), fun h => by simpa [sput] using (h5 (by simpa [did] using h)).below hb, fun h => by simpa [sput] using h6 (by simpa [did] using h), fun h => by simpa [sput] using (h7 (by simpa [did] using h)).below hb, fun _ => by simpa [sput] using hv, fun h => by simpa [sput] using (h9 (by simpa [did] using h)).below hb, fun h => by simpa [sput] using (h10 (by simpa [did] using h)).below hb, fun h => by have := x0 (by simpa [did] using h); simp [did, this], fun h => by have := x1 (by simpa [did] using h); simp [did, this], fun h => by have := x2 (by simpa [did] using h); simp [did, this], fun h => by have := x3 (by simpa [did] using h); simp [did, this], fun h => by have := x4 (by simpa [did] using h); simp [did, this], fun _ => by have y5 := x3 (by simp [hdep]); have y7 := x4 (by simp [hdep]); simp [did, hdep, y5, y7], fun h => by have := x6 (by simpa [did] using h); simp [did, this], fun h => by have := x7 (by simpa [did] using h); simp [did, this], ⟨fun _ => below_nx hT hb, fun h => by simp [did, hl] at h⟩⟩
    · have hl : d 11 = false := by
        cases h : d 11
        · rfl
        · have := x7 h; simp [hd] at this
      replace hT := hT.1 hl
      have fz8 := h8 (by simp [hdep])
      unfold OpSteps
      simp [go_sem, evS, fz8]
      refine (rabs_v fz8).mono ?_
      rintro e W' ⟨v9, rfl, hv, hb⟩
      refine ⟨_, rfl, ?_⟩
      exact ⟨fun h => by simpa [sput] using h0 (by simpa [did] using h), fun h => by simpa [sput] using h1 (by simpa [did] using h), fun h => by simpa [sput] using h2 (by simpa [did] using h), fun h => by simpa [sput] using (h3 (by simpa [did] using h)).below hb, fun h => by simpa [sput] using h4 (by simpa [did] using h), fun h => by simpa [sput] using (h5 (by simpa [did] using h)).below hb, fun h => by simpa [sput] using h6 (by simpa [did] using h), fun h => by simpa [sput] using (h7 (by simpa [did] using h)).below hb, fun h => by simpa [sput] using (h8 (by simpa [did] using h)).below hb, fun _ => by simpa [sput] using hv, fun h => by simpa [sput] using (h10 (by simpa [did] using h)).below hb, fun h => by have := x0 (by simpa [did] using h); simp [did, this], fun h => by have := x1 (by simpa [did] using h); simp [did, this], fun h => by have := x2 (by simpa [did] using h); simp [did, this], fun h => by have := x3 (by simpa [did] using h); simp [did, this], fun h => by have := x4 (by simpa [did] using h); simp [did, this], fun h => by have := x5 (by simpa [did] using h); simp [did, this], fun _ => by have y8 := x5 (by simp [hdep]); simp [did, hdep, y8], fun h => by have := x7 (by simpa [did] using h); simp [did, this], ⟨fun _ => below_nx hT hb, fun h => by simp [did, hl] at h⟩⟩
    · have hl : d 11 = false := by
        cases h : d 11
        · rfl
        · have := x7 h; simp [hd] at this
      replace hT := hT.1 hl
      unfold OpSteps
      simp [go_sem, evS]
      exact ⟨fun h => by simpa [sput] using h0 (by simpa [did] using h), fun h => by simpa [sput] using h1 (by simpa [did] using h), fun h => by simpa [sput] using h2 (by simpa [did] using h), fun h => by simpa [sput] using (h3 (by simpa [did] using h)).below below_one, fun h => by simpa [sput] using h4 (by simpa [did] using h), fun h => by simpa [sput] using (h5 (by simpa [did] using h)).below below_one, fun h => by simpa [sput] using h6 (by simpa [did] using h), fun h => by simpa [sput] using (h7 (by simpa [did] using h)).below below_one, fun h => by simpa [sput] using (h8 (by simpa [did] using h)).below below_one, fun h => by simpa [sput] using (h9 (by simpa [did] using h)).below below_one, fun _ => ⟨W.heap.size, _, _, _, by simp [sput], Blk.new W _ _, hT.size⟩, fun h => by have := x0 (by simpa [did] using h); simp [did, this], fun h => by have := x1 (by simpa [did] using h); simp [did, this], fun h => by have := x2 (by simpa [did] using h); simp [did, this], fun h => by have := x3 (by simpa [did] using h); simp [did, this], fun h => by have := x4 (by simpa [did] using h); simp [did, this], fun h => by have := x5 (by simpa [did] using h); simp [did, this], fun h => by have := x6 (by simpa [did] using h); simp [did, this], fun h => by have := x7 (by simpa [did] using h); simp [did, this], ⟨fun _ => below_al hT, fun h => by simp [did, hl] at h⟩⟩
    · have fz10 := h10 (by simp [hdep])
      have fz9 := h9 (by simp [hdep])
      unfold OpSteps
      replace hT := hT.1 hd
      obtain ⟨g9, z0, z1, z2, gp, hB9, hlo⟩ := fz10
      obtain ⟨ng, A9, n9, c9, E9, L9, gv, gR, gN, gd⟩ := fz9
      have fr0 := hB9.frozen 0
      have fr1 := hB9.frozen 1
      have fr2 := hB9.frozen 2
      obtain ⟨k0, k1, k2⟩ := cells3 hB9
      simp [go_sem, evS, gp, gv, fr0, fr1, fr2, k0, k1, k2]
      exact ⟨fun h => by simpa [sput] using h0 (by simpa [did] using h), fun h => by simpa [sput] using h1 (by simpa [did] using h), fun h => by simpa [sput] using h2 (by simpa [did] using h), fun h => by simpa [sput] using ((((h3 (by simpa [did] using h)).far hB9 (by decide) 0 _).far (hB9.set_ 0 _) (by decide) 1 _).far ((hB9.set_ 0 _).set_ 1 _) (by decide) 2 _), fun h => by simpa [sput] using h4 (by simpa [did] using h), fun h => by simpa [sput] using ((((h5 (by simpa [did] using h)).far hB9 (by decide) 0 _).far (hB9.set_ 0 _) (by decide) 1 _).far ((hB9.set_ 0 _).set_ 1 _) (by decide) 2 _), fun h => by simpa [sput] using h6 (by simpa [did] using h), fun h => by simpa [sput] using ((((h7 (by simpa [did] using h)).far hB9 (by decide) 0 _).far (hB9.set_ 0 _) (by decide) 1 _).far ((hB9.set_ 0 _).set_ 1 _) (by decide) 2 _), fun h => by simpa [sput] using ((((h8 (by simpa [did] using h)).far hB9 (by decide) 0 _).far (hB9.set_ 0 _) (by decide) 1 _).far ((hB9.set_ 0 _).set_ 1 _) (by decide) 2 _), fun h => by simpa [sput] using ((((h9 (by simpa [did] using h)).far hB9 (by decide) 0 _).far (hB9.set_ 0 _) (by decide) 1 _).far ((hB9.set_ 0 _).set_ 1 _) (by decide) 2 _), fun h => ⟨g9, _, _, _, by simpa [sput] using gp, Blk.store3 hB9 _ _ _, hlo⟩, fun h => by have := x0 (by simpa [did] using h); simp [did, this], fun h => by have := x1 (by simpa [did] using h); simp [did, this], fun h => by have := x2 (by simpa [did] using h); simp [did, this], fun h => by have := x3 (by simpa [did] using h); simp [did, this], fun h => by have := x4 (by simpa [did] using h); simp [did, this], fun h => by have := x5 (by simpa [did] using h); simp [did, this], fun h => by have := x6 (by simpa [did] using h); simp [did, this], fun _ => by have y9 := x6 (by simp [hdep]); simp [did, hdep, y9], ⟨fun h => by simp [did] at h, fun _ => ⟨⟨g9, by simpa [sput] using gp, bx_store hB9 gR gN gd, hlo⟩, (((hT.setCell (p := ⟨g9, 0, none⟩) hlo _).setCell (p := ⟨g9, 1, none⟩) hlo _).setCell (p := ⟨g9, 2, none⟩) hlo _)⟩⟩⟩
  intro d s W hJ hd
  obtain ⟨h0, h1, h2, h3, h4, h5, h6, h7, h8, h9, h10, x0, x1, x2, x3, x4, x5, x6, x7, hT⟩ := hJ
  obtain ⟨⟨g1, hg1, hBx, hlo⟩, hBl⟩ := hT.2 (hd 11 (by decide))
  have HX1 := Lib.hid hBx
  have HBw := Lib.hid (below_nx HBq.out hBl)
  have HXq := Lib.hid (HXp.out.next hBl)
  have HDVq := Lib.hid (HDVp.out _ hBl)
  clear h0 h1 h2 h3 h4 h5 h6 h7 h8 h9 h10 x0 x1 x2 x3 x4 x5 x6 x7 hT hd hBx hlo hBl
  simp [setAll, hg1]
  clear hg1
  generalize s 41 = s41
  generalize s 42 = s42
  generalize s 43 = s43
  generalize s 44 = s44
  generalize s 45 = s45
  generalize s 46 = s46
  generalize s 47 = s47
  generalize s 48 = s48
  generalize s 49 = s49
  generalize s 50 = s50
  generalize s 10 = s10
  generalize W = wa at *
  obtain ⟨a0, a1, a2⟩ := cells3 HXq.out
  go_wp2_with fail
  refine (rabs_v HDVq.out).mono ?_
  rintro e wb ⟨vHA1, rfl, hv, hb⟩
  have HA1 := Lib.hid hv
  have HX1 := Lib.hid (HX1.out.below hb)
  have HBw := Lib.hid (below_nx HBw.out hb)
  clear hv hb
  go_wp2_with fail
  refine (rof_v y _ HFy.out.1 HFy.out.2).mono ?_
  rintro e wc ⟨vHA2, rfl, hv, hb⟩
  have HA2 := Lib.hid hv
  have HX1 := Lib.hid (HX1.out.below hb)
  have HBw := Lib.hid (below_nx HBw.out hb)
  have HA1 := Lib.hid (HA1.out.below hb)
  clear hv hb
  go_wp2_with fail
  refine (rabs_v HA2.out).mono ?_
  rintro e wd ⟨vHA3, rfl, hv, hb⟩
  have HA3 := Lib.hid hv
  have HX1 := Lib.hid (HX1.out.below hb)
  have HBw := Lib.hid (below_nx HBw.out hb)
  have HA1 := Lib.hid (HA1.out.below hb)
  clear hv hb
  go_wp2_with fail
  refine (radd_v HA1.out HA3.out HFt.out.2.2.2.2.2.1 HFt.out.2.2.2.2.2.2.1).mono ?_
  rintro e we ⟨vHA4, rfl, hv, hb⟩
  have HA4 := Lib.hid hv
  have HX1 := Lib.hid (HX1.out.below hb)
  have HBw := Lib.hid (below_nx HBw.out hb)
  clear hv hb
  go_wp2_with fail
  refine (rshift_v (-52) (by omega) HA4.out HFt.out.2.2.2.2.2.2.2.1).mono ?_
  rintro e wf ⟨vHA5, rfl, hv, hb⟩
  have HA5 := Lib.hid hv
  have HX1 := Lib.hid (HX1.out.below hb)
  have HBw := Lib.hid (below_nx HBw.out hb)
  clear hv hb
  go_wp2_with fail
  refine (rint_v 1 _ (by omega) (by omega)).mono ?_
  rintro e wg ⟨vHA6, rfl, hv, hb⟩
  have HA6 := Lib.hid hv
  have HX1 := Lib.hid (HX1.out.below hb)
  have HBw := Lib.hid (below_nx HBw.out hb)
  have HA5 := Lib.hid (HA5.out.below hb)
  clear hv hb
  go_wp2_with fail
  refine (rshift_v (-1074) (by omega) HA6.out HFt.out.2.2.2.2.2.2.2.2.2.1).mono ?_
  rintro e wh ⟨vHA7, rfl, hv, hb⟩
  have HA7 := Lib.hid hv
  have HX1 := Lib.hid (HX1.out.below hb)
  have HBw := Lib.hid (below_nx HBw.out hb)
  have HA5 := Lib.hid (HA5.out.below hb)
  clear hv hb
  go_wp2_with fail
  refine (radd_v HA5.out HA7.out HFt.out.2.2.2.2.2.2.2.2.1 HFt.out.2.2.2.2.2.2.2.2.2.2.1).mono ?_
  rintro e wi ⟨vHA8, rfl, hv, hb⟩
  have HA8 := Lib.hid hv
  have HX1 := Lib.hid (HX1.out.below hb)
  have HBw := Lib.hid (below_nx HBw.out hb)
  clear hv hb
  obtain ⟨ng9, A9, n9, c9, E9, L9, rfl, hR9, hN9, hd9⟩ := HA8.out
  have HV2z := Lib.hid (show DV (wi.alloc (.cells #[.bool ng9, .slice A9 n9 c9, .int .i64 E9] 34)) (.agg #[.bool ng9, .slice A9 n9 c9, .int .i64 E9]) _ from ⟨ng9, A9, n9, c9, E9, L9, rfl, hR9.below below_one, hN9, hd9⟩)
  obtain ⟨ng8, A8, n8, c8, E8, L8, hB8, hR8, hN8, hd8⟩ := HX1.out.below (below_one (o := (.cells #[.bool ng9, .slice A9 n9 c9, .int .i64 E9] 34)))
  have HV1z := Lib.hid (show DV (wi.alloc (.cells #[.bool ng9, .slice A9 n9 c9, .int .i64 E9] 34)) (.agg #[.bool ng8, .slice A8 n8 c8, .int .i64 E8]) _ from ⟨ng8, A8, n8, c8, E8, L8, rfl, hR8, hN8, hd8⟩)
  have HBz := Lib.hid (below_al HBw.out (o := (.cells #[.bool ng9, .slice A9 n9 c9, .int .i64 E9] 34)))
  obtain ⟨k0, k1, k2⟩ := cells3 hB8
  obtain ⟨m0, m1, m2⟩ := cells3 (Blk.new wi 34 #[.bool ng9, .slice A9 n9 c9, .int .i64 E9])
  obtain ⟨Z, hZ, hZ0⟩ := HZ.out
  have HZ1 := Lib.hid hZ
  have hsg : decide (Z.sign ≤ 0) = true := by
    have : Z.sign ≤ 0 := by
      rcases Int.lt_trichotomy Z 0 with h | h | h
      · rw [Int.sign_eq_neg_one_of_neg h]; omega
      · subst h; decide
      · omega
    simpa using this
  clear hB8 hR8 hN8 hd8 hR9 hN9 hd9 hZ hZ0 a0 a1 a2
  go_wp2_with fail
  refine (rcmp_v HV1z.out HV2z.out HFt.out.2.2.2.2.1 HFt.out.2.2.2.2.2.2.2.2.2.2.2 HZ1.out).mono ?_
  rintro e wj ⟨rfl, hb⟩
  have HBi := Lib.hid (below_nx HBz.out hb)
  generalize Z.sign = sg at *
  clear hb k0 k1 k2 m0 m1 m2
  go_wp2_with fail
  refine (awake6_any _).mono ?_
  rintro e w9 ⟨rfl, hb⟩
  have HB9 := Lib.hid (below_nx HBi.out hb)
  clear hb
  go_wp2_with fail
  go_ret
  exact ⟨rfl, HB9.out⟩

end Go.Proofs.Ytjjneiidggcfdaa
