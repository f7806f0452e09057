/-
What lies in several blocks, and which blocks have changed. Conditions: none.
-/
import Derived.Test.YtbeefnekblepfaaUaag
set_option linter.unusedVariables false
namespace Go.Proofs.Ytbeefnekblepfaa
open Go.RowKit

/-- Of the blocks that were there those of G alone may have changed. -/
structure Chg (G : List Nat) (w w' : World) : Prop where
  os : w'.os = w.os
  tape : w'.tape = w.tape
  output : w'.output = w.output
  size : w.heap.size ≤ w'.heap.size
  block : ∀ k, k < w.heap.size → k ∉ G → w'.heap[k]? = w.heap[k]?
section
variable {G : List Nat} {w w' w'' : World} {b : Nat} {t : TypeId} {cs : Array Value}
theorem Chg.refl (G : List Nat) (w : World) : Chg G w w := ⟨rfl, rfl, rfl, Nat.le_refl _, fun _ _ _ => rfl⟩
theorem Chg.trans (h : Chg G w w') (k : Chg G w' w'') : Chg G w w'' :=
  ⟨k.os.trans h.os, k.tape.trans h.tape, k.output.trans h.output, Nat.le_trans h.size k.size, fun i hi hn => (k.block i (Nat.lt_of_lt_of_le hi h.size) hn).trans (h.block i hi hn)⟩
theorem Chg.of_below (h : Below w.heap.size w w') : Chg G w w' := ⟨h.os, h.tape, h.output, h.size, fun k hk _ => h.block k hk⟩
theorem Chg.of_only {g : Nat} (h : Only g w w') (hg : g ∈ G) : Chg G w w' := ⟨h.os, h.tape, h.output, h.size, fun k hk hn => h.block k hk (fun e => hn (by injection e with e; subst e; exact hg))⟩
theorem Chg.nxt (h : Chg G w w') (hb : Below w'.heap.size w' w'') : Chg G w w'' := h.trans (.of_below hb)
theorem Chg.mono {G' : List Nat} (h : Chg G w w') (hg : ∀ g ∈ G, g ∈ G') : Chg G' w w' := ⟨h.os, h.tape, h.output, h.size, fun k hk hn => h.block k hk (fun e => hn (hg _ e))⟩
theorem Chg.drew (h : Chg G w w') : Chg G w w'.drew := ⟨h.os, h.tape, h.output, h.size, h.block⟩
theorem Chg.drewN (h : Chg G w w') (n : Nat) : Chg G w (w'.drewN n) := ⟨h.os, h.tape, h.output, h.size, h.block⟩
theorem Chg.alloc (h : Chg G w w') (o : Obj) : Chg G w (w'.alloc o) := h.nxt ((Below.refl _ _).alloc (Nat.le_refl _) o)
theorem Chg.set_in (h : Chg G w w') {p : Addr} (hp : p.block ∈ G) (u : Value) : Chg G w (w'.setCell p u) :=
  ⟨h.os, h.tape, h.output, by simpa [World.setCell] using h.size, fun k hk hn => (Below.heap_setCell w' _ u k (fun e => hn (by rw [e]; exact hp))).trans (h.block k hk hn)⟩
theorem Chg.set_new (h : Chg G w w') {p : Addr} (hp : w.heap.size ≤ p.block) (u : Value) : Chg G w (w'.setCell p u) :=
  ⟨h.os, h.tape, h.output, by simpa [World.setCell] using h.size, fun k hk hn => (Below.heap_setCell w' _ u k (by omega)).trans (h.block k hk hn)⟩
theorem Chg.below {B : Nat} {w0 : World} (h : Chg G w w') (hb : Below B w0 w) (hB : B ≤ w.heap.size) (hG : ∀ g ∈ G, B ≤ g) : Below B w0 w' :=
  hb.trans ⟨h.os, h.tape, h.output, h.size, fun k hk => h.block k (by omega) (fun e => by have := hG k e; omega)⟩
theorem Chg.blk (h : Chg G w w') (hb : b ∉ G) (hB : Blk w b t cs) : Blk w' b t cs := (h.block b hB.lt hb).trans hB
theorem Chg.own {l : List Nat} (h : Chg G w w') (hb : b ∉ G) (hB : Own w b l) : Own w' b l := by
  obtain ⟨cs, hB, ht⟩ := hB; exact ⟨cs, h.blk hb hB, ht⟩
theorem Chg.cell {o : Nat} {v : Value} (h : Chg G w w') (hb : b ∉ G) (hc : w.cell? ⟨b, o, none⟩ = some v) : w'.cell? ⟨b, o, none⟩ = some v :=
  (World.cell?_of_block (a := ⟨b, o, none⟩) (h.block b (block_lt hc) hb)).trans hc
theorem Chg.row {A : Option Addr} {xs : List Value} (h : Chg G w w') (hA : ∀ b o, A = some ⟨b, o, none⟩ → b ∉ G) (hr : Row w A xs) : Row w' A xs := by
  rcases hr with rfl | ⟨b, o, e, hc⟩
  · exact .inl rfl
  · exact .inr ⟨b, o, e, fun i v hi => h.cell (hA b o e) (hc i v hi)⟩
theorem Chg.to_below (h : Chg [] w w') : Below w.heap.size w w' := ⟨h.os, h.tape, h.output, h.size, fun k hk => h.block k hk (by simp)⟩
/-- A block that lay behind all of G. -/
theorem Chg.blk_from {z : Nat} (h : Chg G w w') (hG : ∀ g ∈ G, g < z) (hb : z ≤ b) (hB : Blk w b t cs) : Blk w' b t cs := h.blk (fun e => by have := hG b e; omega) hB

/-- The blocks of G are the call's own, or the caller's, and hold these lists. -/
def Has (w : World) (G : List Nat) (s : Nat → List Nat) : Prop := ∀ g ∈ G, Own w g (s g)
variable {s : Nat → List Nat}
theorem Has.own {g : Nat} (h : Has w G s) (hg : g ∈ G) : Own w g (s g) := h g hg
theorem Has.nxt (h : Has w G s) (hb : Below w.heap.size w w') : Has w' G s := fun g hg => (h g hg).nxt hb
theorem Has.chg {G' : List Nat} (h : Has w G s) (hc : Chg G' w w') (hd : ∀ g ∈ G, g ∉ G') : Has w' G s := fun g hg => hc.own (hd g hg) (h g hg)
theorem Has.lt {g : Nat} (h : Has w G s) (hg : g ∈ G) : g < w.heap.size := (h g hg).lt
theorem Has.set_ {g i : Nat} (h : Has w G s) (hg : g ∈ G) (v : Nat) (hi : i < (s g).length) : Has (w.setCell ⟨g, i, none⟩ (.float .f64 v)) G (upd s g ((s g).set i v)) := by
  intro k hk
  by_cases e : k = g
  · subst e
    rw [upd_self]
    exact (h k hk).set_ i v hi
  · rw [upd_ne e]
    exact (h k hk).other e _
theorem Has.other (h : Has w G s) {p : Addr} (hp : p.block ∉ G) (u : Value) : Has (w.setCell p u) G s := fun g hg => (h g hg).other (fun e => hp (by rw [← e]; exact hg)) u
theorem Has.drew (h : Has w G s) : Has w.drew G s := fun g hg => (h g hg).drew
theorem Has.alloc (h : Has w G s) (o : Obj) : Has (w.alloc o) G s := h.nxt ((Below.refl _ _).alloc (Nat.le_refl _) o)
theorem Has.mono {G' : List Nat} (h : Has w G s) (hg : ∀ g ∈ G', g ∈ G) : Has w G' s := fun g k => h g (hg g k)
theorem Has.get {g i : Nat} (h : Has w G s) (hg : g ∈ G) (hi : i < (s g).length) : w.cell? ⟨g, i, none⟩ = some (.float .f64 ((s g).getD i 0)) := by
  rw [(h g hg).get i hi, getD_of_lt hi]
theorem Has.row {g : Nat} (h : Has w G s) (hg : g ∈ G) : Row w (some ⟨g, 0, none⟩) (f64s (s g)) := (h g hg).row
theorem has_one {g : Nat} {l : List Nat} (h : Own w g l) : Has w [g] (fun _ => l) := fun k hk => by
  rw [List.mem_singleton] at hk; subst hk; exact h
theorem has_two {g g' : Nat} {l l' : List Nat} (h : Own w g l) (h' : Own w g' l') (hne : g ≠ g') : Has w [g, g'] (upd (fun _ => l') g l) := fun k hk => by
  by_cases e : k = g
  · subst e; rw [upd_self]; exact h
  · rw [upd_ne e]
    have : k = g' := by simpa [e] using hk
    subst this; exact h'
theorem own_blk {g : Nat} {l : List Nat} (h : Blk w g 23 (f64s l).toArray) : Own w g l := ⟨_, h, List.take_of_length_le (by simp [f64s])⟩
theorem cells4w {v0 v1 v2 v3 : Value} (h : Blk w b t #[v0, v1, v2, v3]) : w.cell? ⟨b, 0, none⟩ = some v0 ∧ w.cell? ⟨b, 1, none⟩ = some v1 ∧ w.cell? ⟨b, 2, none⟩ = some v2 ∧ w.cell? ⟨b, 3, none⟩ = some v3 := ⟨h.cell 0, h.cell 1, h.cell 2, h.cell 3⟩
theorem frozen4w {v0 v1 v2 v3 : Value} (h : Blk w b t #[v0, v1, v2, v3]) : w.frozen? ⟨b, 0, none⟩ = false ∧ w.frozen? ⟨b, 1, none⟩ = false ∧ w.frozen? ⟨b, 2, none⟩ = false ∧ w.frozen? ⟨b, 3, none⟩ = false := ⟨h.frozen 0, h.frozen 1, h.frozen 2, h.frozen 3⟩
end
end Go.Proofs.Ytbeefnekblepfaa
/-
Vectors: places, and vectors that meet. Conditions: as each says.
-/
set_option linter.unusedVariables false
namespace Go.Proofs.Ytbeefnekblepfaa
open Go.RowKit
attribute [local go_sem ↓] Go.wp_at_zero Go.wp_at_succ

/-- Does a number of the vector stand at place p? -/
def standsB (off k inc p : Int) : Bool := decide (off ≤ p ∧ (p - off) % inc = 0 ∧ (p - off) / inc < k)

end Go.Proofs.Ytbeefnekblepfaa
/-
Cells that a region loads beside calls that make memory: they stay. Conditions: none.
-/
set_option linter.unusedVariables false
namespace Go.Proofs.Ytbeefnekblepfaa
open Go.RowKit

theorem held3 {w W w' : World} {b0 o0 b1 o1 b2 o2 : Nat} {v0 v1 v2 : Value} (h : W.cell? ⟨b0, o0, none⟩ = some v0 ∧ W.cell? ⟨b1, o1, none⟩ = some v1 ∧ W.cell? ⟨b2, o2, none⟩ = some v2 ∧ Below w.heap.size w W) (hb : Below W.heap.size W w') :
    w'.cell? ⟨b0, o0, none⟩ = some v0 ∧ w'.cell? ⟨b1, o1, none⟩ = some v1 ∧ w'.cell? ⟨b2, o2, none⟩ = some v2 ∧ Below w.heap.size w w' :=
  ⟨cell_below h.1 hb, cell_below h.2.1 hb, cell_below h.2.2.1 hb, h.2.2.2.trans (hb.mono h.2.2.2.size)⟩
theorem held4 {w W w' : World} {b0 o0 b1 o1 b2 o2 b3 o3 : Nat} {v0 v1 v2 v3 : Value} (h : W.cell? ⟨b0, o0, none⟩ = some v0 ∧ W.cell? ⟨b1, o1, none⟩ = some v1 ∧ W.cell? ⟨b2, o2, none⟩ = some v2 ∧ W.cell? ⟨b3, o3, none⟩ = some v3 ∧ Below w.heap.size w W) (hb : Below W.heap.size W w') :
    w'.cell? ⟨b0, o0, none⟩ = some v0 ∧ w'.cell? ⟨b1, o1, none⟩ = some v1 ∧ w'.cell? ⟨b2, o2, none⟩ = some v2 ∧ w'.cell? ⟨b3, o3, none⟩ = some v3 ∧ Below w.heap.size w w' :=
  ⟨cell_below h.1 hb, cell_below h.2.1 hb, cell_below h.2.2.1 hb, cell_below h.2.2.2.1 hb, h.2.2.2.2.trans (hb.mono h.2.2.2.2.size)⟩
theorem held5 {w W w' : World} {b0 o0 b1 o1 b2 o2 b3 o3 b4 o4 : Nat} {v0 v1 v2 v3 v4 : Value} (h : W.cell? ⟨b0, o0, none⟩ = some v0 ∧ W.cell? ⟨b1, o1, none⟩ = some v1 ∧ W.cell? ⟨b2, o2, none⟩ = some v2 ∧ W.cell? ⟨b3, o3, none⟩ = some v3 ∧ W.cell? ⟨b4, o4, none⟩ = some v4 ∧ Below w.heap.size w W) (hb : Below W.heap.size W w') :
    w'.cell? ⟨b0, o0, none⟩ = some v0 ∧ w'.cell? ⟨b1, o1, none⟩ = some v1 ∧ w'.cell? ⟨b2, o2, none⟩ = some v2 ∧ w'.cell? ⟨b3, o3, none⟩ = some v3 ∧ w'.cell? ⟨b4, o4, none⟩ = some v4 ∧ Below w.heap.size w w' :=
  ⟨cell_below h.1 hb, cell_below h.2.1 hb, cell_below h.2.2.1 hb, cell_below h.2.2.2.1 hb, cell_below h.2.2.2.2.1 hb, h.2.2.2.2.2.trans (hb.mono h.2.2.2.2.2.size)⟩
theorem held6 {w W w' : World} {b0 o0 b1 o1 b2 o2 b3 o3 b4 o4 b5 o5 : Nat} {v0 v1 v2 v3 v4 v5 : Value} (h : W.cell? ⟨b0, o0, none⟩ = some v0 ∧ W.cell? ⟨b1, o1, none⟩ = some v1 ∧ W.cell? ⟨b2, o2, none⟩ = some v2 ∧ W.cell? ⟨b3, o3, none⟩ = some v3 ∧ W.cell? ⟨b4, o4, none⟩ = some v4 ∧ W.cell? ⟨b5, o5, none⟩ = some v5 ∧ Below w.heap.size w W) (hb : Below W.heap.size W w') :
    w'.cell? ⟨b0, o0, none⟩ = some v0 ∧ w'.cell? ⟨b1, o1, none⟩ = some v1 ∧ w'.cell? ⟨b2, o2, none⟩ = some v2 ∧ w'.cell? ⟨b3, o3, none⟩ = some v3 ∧ w'.cell? ⟨b4, o4, none⟩ = some v4 ∧ w'.cell? ⟨b5, o5, none⟩ = some v5 ∧ Below w.heap.size w w' :=
  ⟨cell_below h.1 hb, cell_below h.2.1 hb, cell_below h.2.2.1 hb, cell_below h.2.2.2.1 hb, cell_below h.2.2.2.2.1 hb, cell_below h.2.2.2.2.2.1 hb, h.2.2.2.2.2.2.trans (hb.mono h.2.2.2.2.2.2.size)⟩
theorem held7 {w W w' : World} {b0 o0 b1 o1 b2 o2 b3 o3 b4 o4 b5 o5 b6 o6 : Nat} {v0 v1 v2 v3 v4 v5 v6 : Value} (h : W.cell? ⟨b0, o0, none⟩ = some v0 ∧ W.cell? ⟨b1, o1, none⟩ = some v1 ∧ W.cell? ⟨b2, o2, none⟩ = some v2 ∧ W.cell? ⟨b3, o3, none⟩ = some v3 ∧ W.cell? ⟨b4, o4, none⟩ = some v4 ∧ W.cell? ⟨b5, o5, none⟩ = some v5 ∧ W.cell? ⟨b6, o6, none⟩ = some v6 ∧ Below w.heap.size w W) (hb : Below W.heap.size W w') :
    w'.cell? ⟨b0, o0, none⟩ = some v0 ∧ w'.cell? ⟨b1, o1, none⟩ = some v1 ∧ w'.cell? ⟨b2, o2, none⟩ = some v2 ∧ w'.cell? ⟨b3, o3, none⟩ = some v3 ∧ w'.cell? ⟨b4, o4, none⟩ = some v4 ∧ w'.cell? ⟨b5, o5, none⟩ = some v5 ∧ w'.cell? ⟨b6, o6, none⟩ = some v6 ∧ Below w.heap.size w w' :=
  ⟨cell_below h.1 hb, cell_below h.2.1 hb, cell_below h.2.2.1 hb, cell_below h.2.2.2.1 hb, cell_below h.2.2.2.2.1 hb, cell_below h.2.2.2.2.2.1 hb, cell_below h.2.2.2.2.2.2.1 hb, h.2.2.2.2.2.2.2.trans (hb.mono h.2.2.2.2.2.2.2.size)⟩
theorem held8 {w W w' : World} {b0 o0 b1 o1 b2 o2 b3 o3 b4 o4 b5 o5 b6 o6 b7 o7 : Nat} {v0 v1 v2 v3 v4 v5 v6 v7 : Value} (h : W.cell? ⟨b0, o0, none⟩ = some v0 ∧ W.cell? ⟨b1, o1, none⟩ = some v1 ∧ W.cell? ⟨b2, o2, none⟩ = some v2 ∧ W.cell? ⟨b3, o3, none⟩ = some v3 ∧ W.cell? ⟨b4, o4, none⟩ = some v4 ∧ W.cell? ⟨b5, o5, none⟩ = some v5 ∧ W.cell? ⟨b6, o6, none⟩ = some v6 ∧ W.cell? ⟨b7, o7, none⟩ = some v7 ∧ Below w.heap.size w W) (hb : Below W.heap.size W w') :
    w'.cell? ⟨b0, o0, none⟩ = some v0 ∧ w'.cell? ⟨b1, o1, none⟩ = some v1 ∧ w'.cell? ⟨b2, o2, none⟩ = some v2 ∧ w'.cell? ⟨b3, o3, none⟩ = some v3 ∧ w'.cell? ⟨b4, o4, none⟩ = some v4 ∧ w'.cell? ⟨b5, o5, none⟩ = some v5 ∧ w'.cell? ⟨b6, o6, none⟩ = some v6 ∧ w'.cell? ⟨b7, o7, none⟩ = some v7 ∧ Below w.heap.size w w' :=
  ⟨cell_below h.1 hb, cell_below h.2.1 hb, cell_below h.2.2.1 hb, cell_below h.2.2.2.1 hb, cell_below h.2.2.2.2.1 hb, cell_below h.2.2.2.2.2.1 hb, cell_below h.2.2.2.2.2.2.1 hb, cell_below h.2.2.2.2.2.2.2.1 hb, h.2.2.2.2.2.2.2.2.trans (hb.mono h.2.2.2.2.2.2.2.2.size)⟩
theorem meet_own (g g' c c' : Nat) (l l' : List Nat) (off r k ld off' r' k' ld' : Int) (w : World) (hO : Own w g l) (hO' : Own w g' l') (hn : l.length < 9223372036854775808) (ho : I64 off) (hr : I64 r) (hk : I64 k) (hi : I64 ld)
    (hn' : l'.length < 9223372036854775808) (ho' : I64 off') (hr' : I64 r') (hk' : I64 k') (hi' : I64 ld') :
    Calls Try.prog 32 #[mat (some ⟨g, 0, none⟩) l.length c off r k ld, mat (some ⟨g', 0, none⟩) l'.length c' off' r' k' ld'] w
      fun e w' => e = .returned (.bool (bothB l.length off r k ld l'.length off' r' k' ld' && decide (g = g') && (decide (off ≤ lastI off' r' k' ld') && decide (off' ≤ lastI off r k ld)))) ∧ Below w.heap.size w w' := by
  cases hb : bothB l.length off r k ld l'.length off' r' k' ld'
  · exact meet_none _ _ c off r k ld _ _ c' off' r' k' ld' w hn ho hr hk hi hn' ho' hr' hk' hi' hb
  · have p0 : 0 < l.length := both_pos hb
    have p0' : 0 < l'.length := by
      unfold bothB at hb
      simp only [Bool.and_eq_true, Bool.not_eq_true', Bool.or_eq_false_iff, beq_eq_false_iff_ne, ne_eq] at hb
      have g1 := of_decide_eq_true hb.1.1.2
      have h0 : 0 ≤ (k' - 1) * ld' := Int.mul_nonneg (by omega) (by omega)
      omega
    by_cases e : g = g'
    · subst e
      have := meet_same g 0 l.length c off r k ld l'.length c' off' r' k' ld' w hn ho hr hk hi hn' ho' hr' hk' hi' hb p0 p0'
      simpa using this
    · have hq : ∀ W, Below w.heap.size w W → (binOp .eql 71 (.pointer (some ⟨g, 0, none⟩)) (.pointer (some ⟨g', 0, none⟩))).run Try.prog W = .ok (.bool false) W := by
        intro W hW
        obtain ⟨cs, hB, ht⟩ := hO'.nxt hW
        refine run_eql_far e ((hO.nxt hW).get 0 p0) ((hO.nxt hW).frozen 0) hB ?_
        have h1 := congrArg List.length ht
        simp [f64s] at h1
        omega
      have := meet_far g 0 l.length c off r k ld g' 0 l'.length c' off' r' k' ld' w hn ho hr hk hi hn' ho' hr' hk' hi' hb p0 p0' hq
      simpa [e] using this
end Go.Proofs.Ytbeefnekblepfaa
/-
Vectors that meet, and Pair. Conditions: as each says.
-/
set_option linter.unusedVariables false
namespace Go.Proofs.Ytbeefnekblepfaa
open Go.RowKit
attribute [local go_sem ↓] Go.wp_at_zero Go.wp_at_succ

/-- Have vectors of K numbers a place in common? -/
def metB (off inc off' inc' K : Nat) : Bool := (List.range K).any fun i => (List.range K).any fun j => off + i * inc == off' + j * inc'
theorem metB_true {off inc off' inc' K : Nat} : metB off inc off' inc' K = true ↔ ∃ i, i < K ∧ ∃ j, j < K ∧ off + i * inc = off' + j * inc' := by
  simp [metB]
theorem metB_false {off inc off' inc' K : Nat} : metB off inc off' inc' K = false ↔ ∀ i, i < K → ∀ j, j < K → off + i * inc ≠ off' + j * inc' := by
  rw [← Bool.not_eq_true, metB_true]
  constructor
  · intro h i hi j hj e
    exact h ⟨i, hi, j, hj, e⟩
  · rintro h ⟨i, hi, j, hj, e⟩
    exact h i hi j hj e

theorem vec_mat (n : Nat) (off k inc : Int) : matB n off 1 k inc = vecB n off k inc := by
  unfold matB vecB
  exact decide_eq_decide.2 (by omega)
/-- A right vector, in plain numbers. -/
theorem vec_nat {n : Nat} {off k inc : Int} (h : vecB n off k inc = true) : ∃ o K i : Nat, off = o ∧ k = K ∧ inc = i ∧ 1 ≤ i ∧ (K = 0 ∨ o + (K - 1) * i < n) := by
  have h := of_decide_eq_true h
  refine ⟨off.toNat, k.toNat, inc.toNat, by omega, by omega, by omega, by omega, ?_⟩
  rcases h.2.2.2 with h0 | h0
  · exact .inl (by omega)
  · by_cases hk : k = 0
    · exact .inl (by omega)
    · refine .inr ?_
      have e : ((off.toNat + (k.toNat - 1) * inc.toNat : Nat) : Int) = off + (k - 1) * inc := by
        rw [Int.natCast_add, Int.natCast_mul, Int.toNat_of_nonneg (by omega), Int.toNat_of_nonneg (by omega : 0 ≤ inc)]
        congr 2
        omega
      omega
theorem vec_right {n o K i : Nat} (hi : 1 ≤ i) (h : K = 0 ∨ o + (K - 1) * i < n) : vecB n (o : Int) (K : Int) (i : Int) = true := by
  refine decide_eq_true ⟨by omega, by omega, by omega, ?_⟩
  rcases h with h | h
  · exact .inl (by omega)
  · rcases Nat.eq_zero_or_pos K with h0 | h0
    · exact .inl (by omega)
    · refine .inr ?_
      have e : ((K : Int) - 1) * (i : Int) = (((K - 1) * i : Nat) : Int) := by rw [Int.natCast_mul]; congr 1; omega
      rw [e]; omega

theorem stands_iff {off' K inc' p : Nat} (hi : 1 ≤ inc') : standsB (off' : Int) (K : Int) (inc' : Int) (p : Int) = true ↔ ∃ j, j < K ∧ p = off' + j * inc' := by
  unfold standsB
  rw [decide_eq_true_eq]
  constructor
  · rintro ⟨h1, h2, h3⟩
    obtain ⟨q, hq⟩ : ∃ q : Nat, (p : Int) - off' = q := ⟨p - off', by omega⟩
    rw [hq] at h2 h3
    have h2' : q % inc' = 0 := by exact_mod_cast h2
    have h3' : q / inc' < K := by exact_mod_cast h3
    refine ⟨q / inc', h3', ?_⟩
    have := Nat.div_add_mod q inc'
    rw [h2', Nat.mul_comm] at this
    omega
  · rintro ⟨j, hj, rfl⟩
    have e : ((off' + j * inc' : Nat) : Int) - off' = ((j * inc' : Nat) : Int) := by omega
    rw [e]
    refine ⟨by omega, ?_, ?_⟩
    · have : j * inc' % inc' = 0 := Nat.mul_mod_left _ _
      exact_mod_cast this
    · have : j * inc' / inc' = j := Nat.mul_div_cancel _ hi
      have h2 : ((j * inc' : Nat) : Int) / (inc' : Int) = ((j * inc' / inc' : Nat) : Int) := by simp
      rw [h2, this]; exact_mod_cast hj
theorem stands_not {off' K inc' p : Nat} (hi : 1 ≤ inc') (h : standsB (off' : Int) (K : Int) (inc' : Int) (p : Int) = false) : ∀ j, j < K → p ≠ off' + j * inc' := by
  intro j hj e
  rw [(stands_iff hi).2 ⟨j, hj, e⟩] at h
  cases h

/-- What Meet says of the rows that two vectors of K numbers are. -/
def spanB (n o i n' o' i' K : Nat) : Bool := bothB n o 1 K i n' o' 1 K i' && (decide ((o : Int) ≤ lastI o' 1 K i') && decide ((o' : Int) ≤ lastI o 1 K i))
theorem span_not {n o i n' o' i' K : Nat} (hi : 1 ≤ i) (hi' : 1 ≤ i') (hr : K = 0 ∨ o + (K - 1) * i < n) (hr' : K = 0 ∨ o' + (K - 1) * i' < n') (h : spanB n o i n' o' i' K = false) : metB o i o' i' K = false := by
  rw [metB_false]
  intro a ha b hb e
  have h1 : bothB n o 1 K i n' o' 1 K i' = true := by
    unfold bothB
    rw [vec_mat, vec_mat, vec_right hi hr, vec_right hi' hr']
    have : ((K : Int) == 0) = false := by simp; omega
    simp [this]
  unfold spanB at h
  rw [h1] at h
  have a1 : a * i ≤ (K - 1) * i := Nat.mul_le_mul_right _ (by omega)
  have b1 : b * i' ≤ (K - 1) * i' := Nat.mul_le_mul_right _ (by omega)
  have e1 : ((K : Int) - 1) * (i : Int) = (((K - 1) * i : Nat) : Int) := by rw [Int.natCast_mul]; congr 1; omega
  have e2 : ((K : Int) - 1) * (i' : Int) = (((K - 1) * i' : Nat) : Int) := by rw [Int.natCast_mul]; congr 1; omega
  unfold lastI at h
  rw [e1, e2] at h
  simp at h
  omega

theorem and_turn (a b c : Bool) : (a && b && c) = (b && (a && c)) := by cases a <;> cases b <;> cases c <;> rfl
theorem meet_rows (g g' c c' : Nat) (l l' : List Nat) (n n' o i o' i' K : Nat) (w : World) (hO : Own w g l) (hO' : Own w g' l') (hln : l.length = n) (hln' : l'.length = n') (hn : n < 9223372036854775808) (hn' : n' < 9223372036854775808)
    (hb : o < 9223372036854775808 ∧ i < 9223372036854775808 ∧ o' < 9223372036854775808 ∧ i' < 9223372036854775808 ∧ K < 9223372036854775808) :
    Calls Try.prog 32 #[mat (some ⟨g, 0, none⟩) n c o 1 K i, mat (some ⟨g', 0, none⟩) n' c' o' 1 K i'] w fun e w' => e = .returned (.bool (decide (g = g') && spanB n o i n' o' i' K)) ∧ Below w.heap.size w w' := by
  subst hln hln'
  have h := meet_own g g' c c' l l' (o : Int) 1 (K : Int) (i : Int) (o' : Int) 1 (K : Int) (i' : Int) w hO hO' hn (by unfold I64; omega) (by unfold I64; omega) (by unfold I64; omega) (by unfold I64; omega) hn' (by unfold I64; omega) (by unfold I64; omega) (by unfold I64; omega) (by unfold I64; omega)
  rw [and_turn] at h
  exact h

end Go.Proofs.Ytbeefnekblepfaa
/-
Pair: which error, or none. Conditions: the vectors' lists are the call's own, or the caller's.
-/
set_option linter.unusedVariables false
namespace Go.Proofs.Ytbeefnekblepfaa
open Go.RowKit
attribute [local go_sem ↓] Go.wp_at_zero Go.wp_at_succ

/-- Which error, or 0. -/
def pairI (same : Bool) (n : Nat) (off k inc : Int) (n' : Nat) (off' k' inc' : Int) : Int :=
  if vecB n off k inc then (if vecB n' off' k' inc' then (if k = k' then (if same && metB off.toNat inc.toNat off'.toNat inc'.toNat k.toNat then 2 else 0) else 3) else 1) else 1

end Go.Proofs.Ytbeefnekblepfaa
