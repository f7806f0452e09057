/-
Two results that are made side by side, each with memory of its own. Conditions: as each says.
-/
import Derived.Test.YtamndbeffbcppaaMwC
import Derived.Test.YtamndbeffbcppaaMvO
set_option linter.unusedVariables false
set_option linter.unusedSimpArgs false
set_option linter.unnecessarySimpa false
namespace Go.Proofs.Ytamndbeffbcppaa
open Go.RowKit
attribute [local go_sem ↓] Go.wp_at_zero Go.wp_at_succ

/-- Block g is of floats, and they meet S. -/
def OwnS (W : World) (S : Array Value → Prop) (g : Nat) : Prop := ∃ cs : Array Value, Blk W g 48 cs ∧ S cs
section
variable {W W' : World} {S S' : Array Value → Prop} {g : Nat}
theorem OwnS.nxt (h : OwnS W S g) (hb : Below W.heap.size W W') : OwnS W' S g := by
  obtain ⟨cs, h1, h2⟩ := h
  exact ⟨cs, h1.nxt hb, h2⟩
theorem OwnS.lt (h : OwnS W S g) : g < W.heap.size := by
  obtain ⟨cs, h1, h2⟩ := h
  exact h1.lt
theorem OwnS.ne_ {p : Nat} {t : TypeId} {cs : Array Value} (h : OwnS W S g) (hB : Blk W p t cs) (ht : t ≠ 48) : g ≠ p := by
  rintro rfl
  obtain ⟨cs', hB', _⟩ := h
  unfold Blk at hB hB'
  rw [hB] at hB'
  injection hB' with hB'
  injection hB' with _ e _
  exact ht e
theorem OwnS.far {p : Nat} (h : OwnS W S g) (hb : ∀ k, k ≠ p → W'.heap[k]? = W.heap[k]?) (hne : g ≠ p) : OwnS W' S g := by
  obtain ⟨cs', hB', h2⟩ := h
  exact ⟨cs', (hb g hne).trans hB', h2⟩
end
/-- Two results, each with a block of its own. -/
def Twn (Z : Nat) (S S' : Array Value → Prop) (f f' : Nat → Nat → Value) (d1 d3 : Bool) (va vb : Value) (W : World) : Prop :=
  d1 = true → ∃ g c, va = f g c ∧ OwnS W S g ∧ Z ≤ g ∧ (d3 = true → ∃ g' c', vb = f' g' c' ∧ OwnS W S' g' ∧ Z ≤ g' ∧ g ≠ g')
section
variable {Z : Nat} {S S' : Array Value → Prop} {f f' : Nat → Nat → Value} {d1 d3 : Bool} {va vb : Value} {W W' : World}
theorem Twn.nxt (h : Twn Z S S' f f' d1 d3 va vb W) (hb : Below W.heap.size W W') : Twn Z S S' f f' d1 d3 va vb W' := fun e => by
  obtain ⟨g, c, h1, h2, h3, h4⟩ := h e
  refine ⟨g, c, h1, h2.nxt hb, h3, fun e' => ?_⟩
  obtain ⟨g', c', k1, k2, k3, k4⟩ := h4 e'
  exact ⟨g', c', k1, k2.nxt hb, k3, k4⟩
theorem Twn.far {p : Nat} {t : TypeId} {cs : Array Value} (h : Twn Z S S' f f' d1 d3 va vb W) (hB : Blk W p t cs) (ht : t ≠ 48) (hb : ∀ k, k ≠ p → W'.heap[k]? = W.heap[k]?) : Twn Z S S' f f' d1 d3 va vb W' := fun e => by
  obtain ⟨g, c, h1, h2, h3, h4⟩ := h e
  refine ⟨g, c, h1, h2.far hb (h2.ne_ hB ht), h3, fun e' => ?_⟩
  obtain ⟨g', c', k1, k2, k3, k4⟩ := h4 e'
  exact ⟨g', c', k1, k2.far hb (k2.ne_ hB ht), k3, k4⟩
theorem Twn.first {g c : Nat} (ho : OwnS W S g) (hZ : Z ≤ g) (h3 : d3 = false) : Twn Z S S' f f' true d3 (f g c) vb W := fun _ => ⟨g, c, rfl, ho, hZ, fun e => by rw [h3] at e; cases e⟩
theorem Twn.second {g' c' : Nat} (h : Twn Z S S' f f' true false va vb W) (hb : Below W.heap.size W W') (ho : OwnS W' S' g') (hZ : Z ≤ g') (hg : W.heap.size ≤ g') : Twn Z S S' f f' true true va (f' g' c') W' := fun _ => by
  obtain ⟨g, c, h1, h2, h3, h4⟩ := h rfl
  exact ⟨g, c, h1, h2.nxt hb, h3, fun _ => ⟨g', c', rfl, ho, hZ, by have := h2.lt; omega⟩⟩
end
theorem rest_sets1 (w : World) (p : Addr) (x : Value) : (w.setCell p x).os = w.os ∧ (w.setCell p x).tape = w.tape ∧ (w.setCell p x).output = w.output ∧ w.heap.size ≤ (w.setCell p x).heap.size :=
  ⟨rfl, rfl, rfl, by simp [World.setCell]⟩
theorem rest_then {a b c : World} (h : b.os = a.os ∧ b.tape = a.tape ∧ b.output = a.output ∧ a.heap.size ≤ b.heap.size) (k : c.os = b.os ∧ c.tape = b.tape ∧ c.output = b.output ∧ b.heap.size ≤ c.heap.size) : c.os = a.os ∧ c.tape = a.tape ∧ c.output = a.output ∧ a.heap.size ≤ c.heap.size :=
  ⟨k.1.trans h.1, k.2.1.trans h.2.1, k.2.2.1.trans h.2.2.1, Nat.le_trans h.2.2.2 k.2.2.2⟩
theorem rest_sets5 (w : World) (p0 p1 p2 p3 p4 : Addr) (x0 x1 x2 x3 x4 : Value) : (((((w.setCell p0 x0).setCell p1 x1).setCell p2 x2).setCell p3 x3).setCell p4 x4).os = w.os ∧ (((((w.setCell p0 x0).setCell p1 x1).setCell p2 x2).setCell p3 x3).setCell p4 x4).tape = w.tape ∧ (((((w.setCell p0 x0).setCell p1 x1).setCell p2 x2).setCell p3 x3).setCell p4 x4).output = w.output ∧ w.heap.size ≤ (((((w.setCell p0 x0).setCell p1 x1).setCell p2 x2).setCell p3 x3).setCell p4 x4).heap.size :=
  rest_then (rest_sets4 w p0 p1 p2 p3 x0 x1 x2 x3) (rest_sets1 _ p4 x4)
theorem rest_sets3 (w : World) (p0 p1 p2 : Addr) (x0 x1 x2 : Value) : (((w.setCell p0 x0).setCell p1 x1).setCell p2 x2).os = w.os ∧ (((w.setCell p0 x0).setCell p1 x1).setCell p2 x2).tape = w.tape ∧ (((w.setCell p0 x0).setCell p1 x1).setCell p2 x2).output = w.output ∧ w.heap.size ≤ (((w.setCell p0 x0).setCell p1 x1).setCell p2 x2).heap.size :=
  ⟨rfl, rfl, rfl, by simp [World.setCell]⟩
theorem frozen5w {w : World} {b : Nat} {t : TypeId} {v0 v1 v2 v3 v4 : Value} (h : Blk w b t #[v0, v1, v2, v3, v4]) : w.frozen? ⟨b, 0, none⟩ = false ∧ w.frozen? ⟨b, 1, none⟩ = false ∧ w.frozen? ⟨b, 2, none⟩ = false ∧ w.frozen? ⟨b, 3, none⟩ = false ∧ w.frozen? ⟨b, 4, none⟩ = false := ⟨h.frozen 0, h.frozen 1, h.frozen 2, h.frozen 3, h.frozen 4⟩

set_option maxHeartbeats 2000000 in
/-- The document's Take, where the order is wrong. -/
theorem rtake_err (R C N g c : Nat) (B : Option Addr) (m d : Nat) (zs : List Int) (w : World) (hZ : Row w B (i64s zs)) (hm : zs.length = m) (hmb : m < 1048576) (hRb : R < 1048576) (hz : ∀ z ∈ zs, I64 z) (x : Int) (hx : (R < m ∧ x = 3) ∨ (m ≤ R ∧ ¬ OrdOk R zs m ∧ x = 1)) :
    Calls Try.prog 16 #[tbl R C g N c, .slice B m d] w fun e w' => e = .returned (.int .i64 x) ∧ Below w.heap.size w w' := by
  have HB := Lib.hid hZ
  have HM := Lib.hid hm
  have HZ := Lib.hid hz
  have HXx := Lib.hid hx
  clear hZ hm hz hx
  unfold tbl at *
  go_enter Try.func16, Try.ntmps16
  have HX := Lib.hid (Blk.new w 34 #[.int .i64 R, .int .i64 C, .slice (some ⟨g, 0, none⟩) N c])
  have HBl := Lib.hid (below_one (W := w) (o := (.cells #[.int .i64 R, .int .i64 C, .slice (some ⟨g, 0, none⟩) N c] 34)))
  by_cases hmr : (R : Int) < (m : Int)
  · have hx3 : x = 3 := by have := HXx.out; omega
    subst hx3
    go_wp2_with fail
    go_ret
    exact ⟨rfl, HBl.out⟩
  have hx1 : ¬ OrdOk R zs m ∧ x = 1 := by
    rcases HXx.out with h | h
    · omega
    · exact h.2
  have HNo := Lib.hid hx1.1
  obtain rfl := hx1.2
  clear hx1
  go_wp2_with fail
  generalize hzz : w.heap.size = z at *
  have Hz := Lib.hid hzz
  clear hzz
  go_loopw [5] (fun a wr => ∃ q : Nat, q ≤ m ∧ a = .int .i64 q ∧ Below z w wr ∧ Blk wr z 34 #[.int .i64 R, .int .i64 C, .slice (some ⟨g, 0, none⟩) N c] ∧ OrdOk R zs q) (fun a _ => m - (intOf a).toNat)
  case atStart => exact ⟨0, Nat.zero_le _, rfl, HBl.out, HX.out, fun i h h0 => by omega⟩
  case round =>
    obtain ⟨q, hq, rfl, hb1, hx1, hok⟩ := hrel
    have HB1 := Lib.hid hb1
    have HX1 := Lib.hid hx1
    have HOk := Lib.hid hok
    clear hb1 hx1 hok
    obtain ⟨c0, c1, c2⟩ := cells3v HX1.out
    by_cases hlt : q < m
    · have hql : q < zs.length := by rw [HM.out]; exact hlt
      obtain ⟨b, o, rfl, _, hcell0⟩ := HB.out.at_ (i64s_get zs q hql)
      have hcell := cell_below hcell0 (show Below w.heap.size w wr by rw [Hz.out]; exact HB1.out)
      have HZq := Lib.hid (HZ.out zs[q] (List.getElem_mem hql))
      obtain ⟨j, hj⟩ : ∃ j, zs[q] = j := ⟨_, rfl⟩
      rw [hj] at hcell HZq
      have Hj := Lib.hid hj
      have hzb := HZq.out
      unfold I64 at hzb
      have hlt2 : (q : Int) < (m : Int) := by omega
      clear hcell0 hj
      by_cases h1 : j < (q : Int)
      · have d1 : decide (j < (q : Int)) = true := by simp [h1]
        go_wp2_with fail
        go_quiet (fail)
        go_wp2_with fail
        go_ret
        exact ⟨rfl, by rw [Hz.out]; first | exact HB1.out | exact below_drewN HB1.out _⟩
      · have d1 : decide (j < (q : Int)) = false := by simp; omega
        by_cases h2 : (R : Int) ≤ j
        · have d2 : decide ((R : Int) ≤ j) = true := by simp [h2]
          go_wp2_with fail
          go_quiet (fail)
          go_wp2_with fail
          go_ret
          exact ⟨rfl, by rw [Hz.out]; first | exact HB1.out | exact below_drewN HB1.out _⟩
        · have d2 : decide ((R : Int) ≤ j) = false := by simp; omega
          go_wp2_with fail
          go_quiet (fail)
          go_wp2_with fail
          go_roundw
          case rel => exact ⟨q + 1, by omega, by go_num, below_drewN HB1.out _, HX1.out, fun i h hi => by
            by_cases e : i = q
            · subst e; rw [Hj.out]; omega
            · exact HOk.out i h (by omega)⟩
          case measure => simp [intOf]; omega
    · obtain rfl : q = m := by omega
      exact absurd HOk.out HNo.out
end Go.Proofs.Ytamndbeffbcppaa
