/-
What lies in several blocks, and which blocks have changed. Conditions: none.
-/
import Derived.Test.YtelpdbkkefpjhaaWKe
import Derived.LaidEqlPtr
set_option linter.unusedVariables false
namespace Go.Proofs.Ytelpdbkkefpjhaa
open Go.RowKit

/-- Of the blocks that were there those of G alone may have changed. -/
structure Chg (G : List Nat) (w w' : World) : Prop where
  os : w'.os = w.os
  tape : w'.tape = w.tape
  output : w'.output = w.output
  size : w.heap.size ≤ w'.heap.size
  block : ∀ k, k < w.heap.size → k ∉ G → w'.heap[k]? = w.heap[k]?
section
variable {G : List Nat} {w w' w'' : World} {b : Nat} {t : TypeId} {cs : Array Value}
theorem Chg.refl (G : List Nat) (w : World) : Chg G w w := ⟨rfl, rfl, rfl, Nat.le_refl _, fun _ _ _ => rfl⟩
theorem Chg.trans (h : Chg G w w') (k : Chg G w' w'') : Chg G w w'' :=
  ⟨k.os.trans h.os, k.tape.trans h.tape, k.output.trans h.output, Nat.le_trans h.size k.size, fun i hi hn => (k.block i (Nat.lt_of_lt_of_le hi h.size) hn).trans (h.block i hi hn)⟩
theorem Chg.of_below (h : Below w.heap.size w w') : Chg G w w' := ⟨h.os, h.tape, h.output, h.size, fun k hk _ => h.block k hk⟩
theorem Chg.nxt (h : Chg G w w') (hb : Below w'.heap.size w' w'') : Chg G w w'' := h.trans (.of_below hb)
theorem Chg.mono {G' : List Nat} (h : Chg G w w') (hg : ∀ g ∈ G, g ∈ G') : Chg G' w w' := ⟨h.os, h.tape, h.output, h.size, fun k hk hn => h.block k hk (fun e => hn (hg _ e))⟩
theorem Chg.drew (h : Chg G w w') : Chg G w w'.drew := ⟨h.os, h.tape, h.output, h.size, h.block⟩
theorem Chg.drewN (h : Chg G w w') (n : Nat) : Chg G w (w'.drewN n) := ⟨h.os, h.tape, h.output, h.size, h.block⟩
theorem Chg.alloc (h : Chg G w w') (o : Obj) : Chg G w (w'.alloc o) := h.nxt ((Below.refl _ _).alloc (Nat.le_refl _) o)
theorem Chg.set_in (h : Chg G w w') {p : Addr} (hp : p.block ∈ G) (u : Value) : Chg G w (w'.setCell p u) :=
  ⟨h.os, h.tape, h.output, by simpa [World.setCell] using h.size, fun k hk hn => (Below.heap_setCell w' _ u k (fun e => hn (by rw [e]; exact hp))).trans (h.block k hk hn)⟩
theorem Chg.below {B : Nat} {w0 : World} (h : Chg G w w') (hb : Below B w0 w) (hB : B ≤ w.heap.size) (hG : ∀ g ∈ G, B ≤ g) : Below B w0 w' :=
  hb.trans ⟨h.os, h.tape, h.output, h.size, fun k hk => h.block k (by omega) (fun e => by have := hG k e; omega)⟩
theorem Chg.blk (h : Chg G w w') (hb : b ∉ G) (hB : Blk w b t cs) : Blk w' b t cs := (h.block b hB.lt hb).trans hB
theorem Chg.own {l : List Nat} (h : Chg G w w') (hb : b ∉ G) (hB : Own w b l) : Own w' b l := by
  obtain ⟨cs, hB, ht⟩ := hB; exact ⟨cs, h.blk hb hB, ht⟩
theorem Chg.cell {o : Nat} {v : Value} (h : Chg G w w') (hb : b ∉ G) (hc : w.cell? ⟨b, o, none⟩ = some v) : w'.cell? ⟨b, o, none⟩ = some v :=
  (World.cell?_of_block (a := ⟨b, o, none⟩) (h.block b (block_lt hc) hb)).trans hc
theorem Chg.row {A : Option Addr} {xs : List Value} (h : Chg G w w') (hA : ∀ b o, A = some ⟨b, o, none⟩ → b ∉ G) (hr : Row w A xs) : Row w' A xs := by
  rcases hr with rfl | ⟨b, o, e, hc⟩
  · exact .inl rfl
  · exact .inr ⟨b, o, e, fun i v hi => h.cell (hA b o e) (hc i v hi)⟩
/-- The blocks of G are the call's own, or the caller's, and hold these lists. -/
def Has (w : World) (G : List Nat) (s : Nat → List Nat) : Prop := ∀ g ∈ G, Own w g (s g)
variable {s : Nat → List Nat}
theorem Has.own {g : Nat} (h : Has w G s) (hg : g ∈ G) : Own w g (s g) := h g hg
theorem Has.nxt (h : Has w G s) (hb : Below w.heap.size w w') : Has w' G s := fun g hg => (h g hg).nxt hb
theorem Has.lt {g : Nat} (h : Has w G s) (hg : g ∈ G) : g < w.heap.size := (h g hg).lt
theorem Has.set_ {g i : Nat} (h : Has w G s) (hg : g ∈ G) (v : Nat) (hi : i < (s g).length) : Has (w.setCell ⟨g, i, none⟩ (.float .f64 v)) G (upd s g ((s g).set i v)) := by
  intro k hk
  by_cases e : k = g
  · subst e
    rw [upd_self]
    exact (h k hk).set_ i v hi
  · rw [upd_ne e]
    exact (h k hk).other e _
theorem Has.other (h : Has w G s) {p : Addr} (hp : p.block ∉ G) (u : Value) : Has (w.setCell p u) G s := fun g hg => (h g hg).other (fun e => hp (by rw [← e]; exact hg)) u
theorem Has.drew (h : Has w G s) : Has w.drew G s := fun g hg => (h g hg).drew
theorem Has.alloc (h : Has w G s) (o : Obj) : Has (w.alloc o) G s := h.nxt ((Below.refl _ _).alloc (Nat.le_refl _) o)
theorem Has.mono {G' : List Nat} (h : Has w G s) (hg : ∀ g ∈ G', g ∈ G) : Has w G' s := fun g k => h g (hg g k)
theorem Has.get {g i : Nat} (h : Has w G s) (hg : g ∈ G) (hi : i < (s g).length) : w.cell? ⟨g, i, none⟩ = some (.float .f64 ((s g).getD i 0)) := by
  rw [(h g hg).get i hi, getD_of_lt hi]
theorem Has.row {g : Nat} (h : Has w G s) (hg : g ∈ G) : Row w (some ⟨g, 0, none⟩) (f64s (s g)) := (h g hg).row
theorem own_blk {g : Nat} {l : List Nat} (h : Blk w g 45 (f64s l).toArray) : Own w g l := ⟨_, h, List.take_of_length_le (by simp [f64s])⟩
end
end Go.Proofs.Ytelpdbkkefpjhaa
