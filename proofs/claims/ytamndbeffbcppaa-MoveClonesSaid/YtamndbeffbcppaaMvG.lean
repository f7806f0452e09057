/-
Rows: two rows change places. Conditions: the matrix' list is the call's own, or the caller's.
-/
import Derived.Test.YtamndbeffbcppaaMvF
import Derived.Test.YtamndbeffbcppaaInv
set_option linter.unusedVariables false
set_option linter.unusedSimpArgs false
set_option linter.unnecessarySimpa false
namespace Go.Proofs.Ytamndbeffbcppaa
open Go.RowKit
attribute [local go_sem ↓] Go.wp_at_zero Go.wp_at_succ

theorem below_nx {w W w' : World} (h : Below w.heap.size w W) (hb : Below W.heap.size W w') : Below w.heap.size w w' := h.trans (hb.mono h.size)
theorem below_al {w W : World} (h : Below w.heap.size w W) {o : Obj} : Below w.heap.size w (W.alloc o) := h.alloc h.size o
/-- What a region has made so far: its variables p and q hold these, or their first values. -/
def Two (w0 : World) (t : TypeId) (z a b : Array Value) (da db sa sb : Bool) (va vb : Value) (W : World) : Prop :=
  Below w0.heap.size w0 W ∧ (da = true → ∃ p, va = .pointer (some ⟨p, 0, none⟩) ∧ w0.heap.size ≤ p ∧ Blk W p t (if sa then a else z)) ∧
    (db = true → ∃ p, vb = .pointer (some ⟨p, 0, none⟩) ∧ w0.heap.size ≤ p ∧ Blk W p t (if sb then b else z)) ∧ (da = true → db = true → va ≠ vb)
section
variable {w0 W W' : World} {t : TypeId} {z a b : Array Value} {da db sa sb : Bool} {va vb : Value}
theorem Two.nxt (h : Two w0 t z a b da db sa sb va vb W) (hb : Below W.heap.size W W') : Two w0 t z a b da db sa sb va vb W' :=
  ⟨below_nx h.1 hb, fun e => by
    obtain ⟨p, h1, h2, h3⟩ := h.2.1 e
    exact ⟨p, h1, h2, h3.nxt hb⟩, fun e => by
    obtain ⟨p, h1, h2, h3⟩ := h.2.2.1 e
    exact ⟨p, h1, h2, h3.nxt hb⟩, h.2.2.2⟩
theorem Two.alloc1 (h : Two w0 t z a b false db false sb va vb W) : Two w0 t z a b true db false sb (.pointer (some ⟨W.heap.size, 0, none⟩)) vb (W.alloc (.cells z t)) :=
  ⟨below_al h.1, fun _ => ⟨_, rfl, h.1.size, Blk.new W t z⟩, fun e => by
    obtain ⟨p, h1, h2, h3⟩ := h.2.2.1 e
    exact ⟨p, h1, h2, h3.alloc _⟩, fun _ e => by
    obtain ⟨p, h1, h2, h3⟩ := h.2.2.1 e
    subst h1
    intro e2
    have := h3.lt
    have e3 : W.heap.size = p := by injection e2 with e2; injection e2 with e2; injection e2
    omega⟩
theorem Two.turn (h : Two w0 t z a b da db sa sb va vb W) : Two w0 t z b a db da sb sa vb va W := ⟨h.1, h.2.2.1, h.2.1, fun e e' => fun e2 => h.2.2.2 e' e e2.symm⟩
theorem Two.alloc2 (h : Two w0 t z a b da false sa false va vb W) : Two w0 t z a b da true sa false va (.pointer (some ⟨W.heap.size, 0, none⟩)) (W.alloc (.cells z t)) := h.turn.alloc1.turn
/-- Only block p of type t has changed, and into this. -/
theorem Two.store1 {p : Nat} (h : Two w0 t z a b true db false sb (.pointer (some ⟨p, 0, none⟩)) vb W) (hb : ∀ k, k ≠ p → W'.heap[k]? = W.heap[k]?) (hB : Blk W' p t a) (hs : W'.os = W.os ∧ W'.tape = W.tape ∧ W'.output = W.output ∧ W.heap.size ≤ W'.heap.size) :
    Two w0 t z a b true db true sb (.pointer (some ⟨p, 0, none⟩)) vb W' := by
  obtain ⟨p', h1, h2, h3⟩ := h.2.1 rfl
  obtain rfl : p = p' := by simpa using h1
  refine ⟨⟨hs.1.trans h.1.os, hs.2.1.trans h.1.tape, hs.2.2.1.trans h.1.output, Nat.le_trans h.1.size hs.2.2.2, fun k hk => (hb k (by omega)).trans (h.1.block k hk)⟩, fun _ => ⟨p, rfl, h2, hB⟩, fun e => ?_, h.2.2.2⟩
  obtain ⟨q, k1, k2, k3⟩ := h.2.2.1 e
  have hne := h.2.2.2 rfl e
  subst k1
  exact ⟨q, rfl, k2, (hb q (fun e2 => hne (by rw [e2]))).trans k3⟩
theorem Two.store2 {p : Nat} (h : Two w0 t z a b da true sa false va (.pointer (some ⟨p, 0, none⟩)) W) (hb : ∀ k, k ≠ p → W'.heap[k]? = W.heap[k]?) (hB : Blk W' p t b) (hs : W'.os = W.os ∧ W'.tape = W.tape ∧ W'.output = W.output ∧ W.heap.size ≤ W'.heap.size) :
    Two w0 t z a b da true sa true va (.pointer (some ⟨p, 0, none⟩)) W' := (h.turn.store1 hb hB hs).turn
end
theorem heap_sets4 {w : World} {g k : Nat} (h : k ≠ g) (x0 x1 x2 x3 : Value) : ((((w.setCell ⟨g, 0, none⟩ x0).setCell ⟨g, 1, none⟩ x1).setCell ⟨g, 2, none⟩ x2).setCell ⟨g, 3, none⟩ x3).heap[k]? = w.heap[k]? := by
  rw [Below.heap_setCell _ _ _ _ h, Below.heap_setCell _ _ _ _ h, Below.heap_setCell _ _ _ _ h, Below.heap_setCell _ _ _ _ h]
theorem heap_sets5 {w : World} {g k : Nat} (h : k ≠ g) (x0 x1 x2 x3 x4 : Value) : (((((w.setCell ⟨g, 0, none⟩ x0).setCell ⟨g, 1, none⟩ x1).setCell ⟨g, 2, none⟩ x2).setCell ⟨g, 3, none⟩ x3).setCell ⟨g, 4, none⟩ x4).heap[k]? = w.heap[k]? := by
  rw [Below.heap_setCell _ _ _ _ h, heap_sets4 h]
theorem heap_sets3 {w : World} {g k : Nat} (h : k ≠ g) (x0 x1 x2 : Value) : (((w.setCell ⟨g, 0, none⟩ x0).setCell ⟨g, 1, none⟩ x1).setCell ⟨g, 2, none⟩ x2).heap[k]? = w.heap[k]? := by
  rw [Below.heap_setCell _ _ _ _ h, Below.heap_setCell _ _ _ _ h, Below.heap_setCell _ _ _ _ h]
theorem rest_sets4 (w : World) (p0 p1 p2 p3 : Addr) (x0 x1 x2 x3 : Value) : ((((w.setCell p0 x0).setCell p1 x1).setCell p2 x2).setCell p3 x3).os = w.os ∧ ((((w.setCell p0 x0).setCell p1 x1).setCell p2 x2).setCell p3 x3).tape = w.tape ∧ ((((w.setCell p0 x0).setCell p1 x1).setCell p2 x2).setCell p3 x3).output = w.output ∧ w.heap.size ≤ ((((w.setCell p0 x0).setCell p1 x1).setCell p2 x2).setCell p3 x3).heap.size :=
  ⟨rfl, rfl, rfl, by simp [World.setCell]⟩

set_option maxHeartbeats 2000000 in
theorem rows_gen (A : Option Addr) (n c : Nat) (off r k ld i j : Int) (A1 A2 : Option Addr) (n1 c1 n2 c2 : Nat) (o1 k1 i1 o2 k2 i2 z : Int) (R : World → World → Prop) (w : World) (hn1 : n1 < 9223372036854775808) (ho1 : I64 o1) (hk1 : I64 k1) (hi1 : I64 i1)
    (H1 : ∀ W, Calls Try.prog 39 #[mat A n c off r k ld, .int .i64 i] W fun e w' => e = .returned (vec A1 n1 c1 o1 k1 i1) ∧ Below W.heap.size W w')
    (H2 : ∀ W, Calls Try.prog 39 #[mat A n c off r k ld, .int .i64 j] W fun e w' => e = .returned (vec A2 n2 c2 o2 k2 i2) ∧ Below W.heap.size W w')
    (hsame : i = j → vecB n1 o1 k1 i1 = true → z = 0 ∧ ∀ W, Below w.heap.size w W → R W W)
    (HS : ¬ (i = j ∧ vecB n1 o1 k1 i1 = true) → ∀ W, Below w.heap.size w W → Calls Try.prog 41 #[vec A1 n1 c1 o1 k1 i1, vec A2 n2 c2 o2 k2 i2] W fun e w' => e = .returned (.int .i64 z) ∧ R W w') :
    Calls Try.prog 10 #[mat A n c off r k ld, .int .i64 i, .int .i64 j] w fun e w' => e = .returned (.int .i64 z) ∧ ∃ W, Below w.heap.size w W ∧ R W w' := by
  have HRt := Lib.hid (fun W => right_any A1 n1 c1 o1 k1 i1 W (by omega) ho1 hk1 hi1)
  have HSm := Lib.hid hsame
  have HSw := Lib.hid HS
  generalize vecB n1 o1 k1 i1 = x at *
  clear hn1 ho1 hk1 hi1 hsame HS
  have HR1 := Lib.hid H1
  have HR2 := Lib.hid H2
  clear H1 H2
  unfold mat vec at *
  go_enter Try.func10, Try.ntmps10
  have HZ0 := Lib.hid (Blk.new w 24 #[.slice A n c, .int .i64 off, .int .i64 r, .int .i64 k, .int .i64 ld])
  have HB0 := Lib.hid ((Below.refl w.heap.size w).alloc (Nat.le_refl _) (.cells #[.slice A n c, .int .i64 off, .int .i64 r, .int .i64 k, .int .i64 ld] 24))
  go_wp2_with fail
  obtain ⟨w0, hw0⟩ : ∃ w0, w.alloc (.cells #[.slice A n c, .int .i64 off, .int .i64 r, .int .i64 k, .int .i64 ld] 24) = w0 := ⟨_, rfl⟩
  rw [hw0] at HZ0 HB0
  rw [hw0]
  have Hw0 := Lib.hid hw0
  clear hw0
  refine wp_region_inv [9, 10, 11, 12, 13, 14, 7, 8] (fun d s W => 
    (d 0 = true → s 9 = .agg #[.slice A n c, .int .i64 off, .int .i64 r, .int .i64 k, .int .i64 ld]) ∧ (d 1 = true → s 10 = .int .i64 i) ∧ (d 2 = true → s 11 = .agg #[.slice A1 n1 c1, .int .i64 o1, .int .i64 k1, .int .i64 i1]) ∧
    (d 3 = true → s 12 = .agg #[.slice A n c, .int .i64 off, .int .i64 r, .int .i64 k, .int .i64 ld]) ∧ (d 4 = true → s 13 = .int .i64 j) ∧ (d 5 = true → s 14 = .agg #[.slice A2 n2 c2, .int .i64 o2, .int .i64 k2, .int .i64 i2]) ∧
    Two w0 45 #[.slice none 0 0, .int .i64 0, .int .i64 0, .int .i64 0] #[.slice A1 n1 c1, .int .i64 o1, .int .i64 k1, .int .i64 i1] #[.slice A2 n2 c2, .int .i64 o2, .int .i64 k2, .int .i64 i2] (d 6) (d 7) (d 8) (d 9) (s 7) (s 8) W ∧ (d 8 = true → d 6 = true) ∧ (d 9 = true → d 7 = true))
    rfl (by kernel_rfl) ?_ ?_ ?_
  · exact ⟨by simp, by simp, by simp, by simp, by simp, by simp, ⟨(Below.refl _ _).drew, by simp, by simp, by simp⟩, by simp, by simp⟩
  · refine ⟨?_, ?_, ?_, ?_, ?_, ?_, ?_, ?_, ?_, ?_, trivial⟩
    all_goals
      intro d s W hJ hfr hd hdep
      simp only [List.mem_cons, forall_eq_or_imp, List.not_mem_nil, false_implies, implies_true, and_true, Region.binds] at hdep
      have f0 := hfr 1 (by decide)
      have f1 := hfr 2 (by decide)
      have f2 := hfr 3 (by decide)
      simp at f0 f1 f2 hdep
      obtain ⟨h0, h1, h2, h3, h4, h5, hT, hx, hy⟩ := hJ
      unfold OpSteps
    · obtain ⟨c0, c1, c2, c3, c4⟩ := cells5 (HZ0.out.below hT.1 HZ0.out.lt)
      simp [go_sem, evS, f2, c0, c1, c2, c3, c4]
      exact ⟨fun _ => by simp [sput], fun h => by simpa [sput] using h1 (by simpa [did] using h), fun h => by simpa [sput] using h2 (by simpa [did] using h), fun h => by simpa [sput] using h3 (by simpa [did] using h), fun h => by simpa [sput] using h4 (by simpa [did] using h), fun h => by simpa [sput] using h5 (by simpa [did] using h), by simpa [sput, did] using hT, fun h => by simpa [did] using hx (by simpa [did] using h), fun h => by simpa [did] using hy (by simpa [did] using h)⟩
    · simp [go_sem, evS, f0, f1]
      exact ⟨fun h => by simpa [sput] using h0 (by simpa [did] using h), fun _ => by simp [sput], fun h => by simpa [sput] using h2 (by simpa [did] using h), fun h => by simpa [sput] using h3 (by simpa [did] using h), fun h => by simpa [sput] using h4 (by simpa [did] using h), fun h => by simpa [sput] using h5 (by simpa [did] using h), by simpa [sput, did] using hT, fun h => by simpa [did] using hx (by simpa [did] using h), fun h => by simpa [did] using hy (by simpa [did] using h)⟩
    · have g0 := h0 (by simpa using hdep.1)
      have g1 := h1 (by simpa using hdep.2)
      simp [go_sem, evS, g0, g1]
      refine (HR1.out W).mono ?_
      rintro e W' ⟨rfl, hb⟩
      refine ⟨_, rfl, ?_⟩
      have hT2 := hT.nxt hb
      exact ⟨fun h => by simpa [sput] using h0 (by simpa [did] using h), fun h => by simpa [sput] using h1 (by simpa [did] using h), fun _ => by simp [sput], fun h => by simpa [sput] using h3 (by simpa [did] using h), fun h => by simpa [sput] using h4 (by simpa [did] using h), fun h => by simpa [sput] using h5 (by simpa [did] using h), by simpa [sput, did] using hT2, fun h => by simpa [did] using hx (by simpa [did] using h), fun h => by simpa [did] using hy (by simpa [did] using h)⟩
    · obtain ⟨c0, c1, c2, c3, c4⟩ := cells5 (HZ0.out.below hT.1 HZ0.out.lt)
      simp [go_sem, evS, f2, c0, c1, c2, c3, c4]
      exact ⟨fun h => by simpa [sput] using h0 (by simpa [did] using h), fun h => by simpa [sput] using h1 (by simpa [did] using h), fun h => by simpa [sput] using h2 (by simpa [did] using h), fun _ => by simp [sput], fun h => by simpa [sput] using h4 (by simpa [did] using h), fun h => by simpa [sput] using h5 (by simpa [did] using h), by simpa [sput, did] using hT, fun h => by simpa [did] using hx (by simpa [did] using h), fun h => by simpa [did] using hy (by simpa [did] using h)⟩
    · simp [go_sem, evS, f0, f1]
      exact ⟨fun h => by simpa [sput] using h0 (by simpa [did] using h), fun h => by simpa [sput] using h1 (by simpa [did] using h), fun h => by simpa [sput] using h2 (by simpa [did] using h), fun h => by simpa [sput] using h3 (by simpa [did] using h), fun _ => by simp [sput], fun h => by simpa [sput] using h5 (by simpa [did] using h), by simpa [sput, did] using hT, fun h => by simpa [did] using hx (by simpa [did] using h), fun h => by simpa [did] using hy (by simpa [did] using h)⟩
    · have g0 := h3 (by simpa using hdep.1)
      have g1 := h4 (by simpa using hdep.2.1)
      simp [go_sem, evS, g0, g1]
      refine (HR2.out W).mono ?_
      rintro e W' ⟨rfl, hb⟩
      refine ⟨_, rfl, ?_⟩
      have hT2 := hT.nxt hb
      exact ⟨fun h => by simpa [sput] using h0 (by simpa [did] using h), fun h => by simpa [sput] using h1 (by simpa [did] using h), fun h => by simpa [sput] using h2 (by simpa [did] using h), fun h => by simpa [sput] using h3 (by simpa [did] using h), fun h => by simpa [sput] using h4 (by simpa [did] using h), fun _ => by simp [sput], by simpa [sput, did] using hT2, fun h => by simpa [did] using hx (by simpa [did] using h), fun h => by simpa [did] using hy (by simpa [did] using h)⟩
    · have hd8 : d 8 = false := by
        cases h : d 8
        · rfl
        · have := hx h; rw [hd] at this; cases this
      rw [hd, hd8] at hT
      have hT2 := hT.alloc1
      simp [go_sem, evS]
      exact ⟨fun h => by simpa [sput] using h0 (by simpa [did] using h), fun h => by simpa [sput] using h1 (by simpa [did] using h), fun h => by simpa [sput] using h2 (by simpa [did] using h), fun h => by simpa [sput] using h3 (by simpa [did] using h), fun h => by simpa [sput] using h4 (by simpa [did] using h), fun h => by simpa [sput] using h5 (by simpa [did] using h), by simpa [sput, did, hd8] using hT2, fun h => by simp [did], fun h => by simpa [did] using hy (by simpa [did] using h)⟩
    · have hd8 : d 9 = false := by
        cases h : d 9
        · rfl
        · have := hy h; rw [hd] at this; cases this
      rw [hd, hd8] at hT
      have hT2 := hT.alloc2
      simp [go_sem, evS]
      exact ⟨fun h => by simpa [sput] using h0 (by simpa [did] using h), fun h => by simpa [sput] using h1 (by simpa [did] using h), fun h => by simpa [sput] using h2 (by simpa [did] using h), fun h => by simpa [sput] using h3 (by simpa [did] using h), fun h => by simpa [sput] using h4 (by simpa [did] using h), fun h => by simpa [sput] using h5 (by simpa [did] using h), by simpa [sput, did, hd8] using hT2, fun h => by simpa [did] using hx (by simpa [did] using h), fun h => by simp [did]⟩
    · have e6 : d 6 = true := hdep.1
      have g1 := h2 hdep.2.1
      rw [hd, e6] at hT
      obtain ⟨p, hp, hp2, hpB⟩ := hT.2.1 rfl
      simp only [Bool.false_eq_true, if_false] at hpB
      obtain ⟨r0, r1, r2, r3⟩ := cells4w hpB
      obtain ⟨q0, q1, q2, q3⟩ := frozen4w hpB
      rw [hp] at hT
      have hT2 := hT.store1 (fun k hk => heap_sets4 hk (.slice A1 n1 c1) (.int .i64 o1) (.int .i64 k1) (.int .i64 i1)) (hpB.store4v (.slice A1 n1 c1) (.int .i64 o1) (.int .i64 k1) (.int .i64 i1)) (rest_sets4 _ _ _ _ _ _ _ _ _)
      simp [go_sem, evS, hp, g1, r0, r1, r2, r3, q0, q1, q2, q3]
      exact ⟨fun h => by simpa [sput] using h0 (by simpa [did] using h), fun h => by simpa [sput] using h1 (by simpa [did] using h), fun h => by simpa [sput] using h2 (by simpa [did] using h), fun h => by simpa [sput] using h3 (by simpa [did] using h), fun h => by simpa [sput] using h4 (by simpa [did] using h), fun h => by simpa [sput] using h5 (by simpa [did] using h), by simpa [sput, did, hp, e6] using hT2, fun _ => by simp [did, e6], fun h => by simpa [did] using hy (by simpa [did] using h)⟩
    · have e7 : d 7 = true := hdep.1
      have g1 := h5 hdep.2.1
      rw [hd, e7] at hT
      obtain ⟨p, hp, hp2, hpB⟩ := hT.2.2.1 rfl
      simp only [Bool.false_eq_true, if_false] at hpB
      obtain ⟨r0, r1, r2, r3⟩ := cells4w hpB
      obtain ⟨q0, q1, q2, q3⟩ := frozen4w hpB
      rw [hp] at hT
      have hT2 := hT.store2 (fun k hk => heap_sets4 hk (.slice A2 n2 c2) (.int .i64 o2) (.int .i64 k2) (.int .i64 i2)) (hpB.store4v (.slice A2 n2 c2) (.int .i64 o2) (.int .i64 k2) (.int .i64 i2)) (rest_sets4 _ _ _ _ _ _ _ _ _)
      simp [go_sem, evS, hp, g1, r0, r1, r2, r3, q0, q1, q2, q3]
      exact ⟨fun h => by simpa [sput] using h0 (by simpa [did] using h), fun h => by simpa [sput] using h1 (by simpa [did] using h), fun h => by simpa [sput] using h2 (by simpa [did] using h), fun h => by simpa [sput] using h3 (by simpa [did] using h), fun h => by simpa [sput] using h4 (by simpa [did] using h), fun h => by simpa [sput] using h5 (by simpa [did] using h), by simpa [sput, did, hp, e7] using hT2, fun h => by simpa [did] using hx (by simpa [did] using h), fun _ => by simp [did, e7]⟩
  · intro d s W hJ hd
    obtain ⟨h0, h1, h2, h3, h4, h5, hT, hx, hy⟩ := hJ
    rw [hd 6 (by decide), hd 7 (by decide), hd 8 (by decide), hd 9 (by decide)] at hT
    obtain ⟨hb, hp, hq, hne⟩ := hT
    obtain ⟨p, hp, hp2, hpB⟩ := hp rfl
    obtain ⟨q, hq, hq2, hqB⟩ := hq rfl
    simp only [if_true] at hpB hqB
    clear h0 h1 h2 h3 h4 h5 hx hy hne hd
    simp [setAll, hp, hq]
    clear hp hq
    generalize s 9 = s9
    generalize s 10 = s10
    generalize s 11 = s11
    generalize s 12 = s12
    generalize s 13 = s13
    generalize s 14 = s14
    have HBW := Lib.hid (below_nx HB0.out (hb.mono (by exact Nat.le_refl _)))
    have HPB := Lib.hid hpB
    have HQB := Lib.hid hqB
    clear hb hp2 hq2 hpB hqB
    obtain ⟨r0, r1, r2, r3⟩ := cells4w HPB.out
    obtain ⟨t0, t1, t2, t3⟩ := cells4w HQB.out
    by_cases hij : i = j
    · have hij2 : (i == j) = true := by simp [hij]
      have Hij := Lib.hid hij
      clear hij
      go_wp2_with fail
      refine (HRt.out _).mono ?_
      rintro e W1 ⟨rfl, hb1⟩
      have HBW1 := Lib.hid (below_nx HBW.out hb1)
      have HPB1 := Lib.hid (HPB.out.nxt hb1)
      have HQB1 := Lib.hid (HQB.out.nxt hb1)
      clear r0 r1 r2 r3 t0 t1 t2 t3 hb1
      obtain ⟨r0, r1, r2, r3⟩ := cells4w HPB1.out
      obtain ⟨t0, t1, t2, t3⟩ := cells4w HQB1.out
      cases x
      · have HSw2 := Lib.hid (HSw.out (by simp) _ HBW1.out)
        go_wp2_with fail
        refine HSw2.out.mono ?_
        rintro e W2 ⟨rfl, hR⟩
        have HRR := Lib.hid hR
        clear hR
        go_wp2_with fail
        go_ret
        exact ⟨rfl, _, HBW1.out, HRR.out⟩
      · obtain ⟨hz, hR⟩ := HSm.out Hij.out (by trivial)
        subst hz
        have HRR := Lib.hid (hR _ HBW1.out)
        clear hR
        go_wp2_with fail
        go_ret
        exact ⟨rfl, _, HBW1.out, HRR.out⟩
    · have hij2 : (i == j) = false := by simp [hij]
      have HSw2 := Lib.hid (HSw.out (fun h => hij h.1) _ HBW.out)
      clear hij
      go_wp2_with fail
      refine HSw2.out.mono ?_
      rintro e W2 ⟨rfl, hR⟩
      have HRR := Lib.hid hR
      clear hR
      go_wp2_with fail
      go_ret
      exact ⟨rfl, _, HBW.out, HRR.out⟩
end Go.Proofs.Ytamndbeffbcppaa
