/-
GemmTells: spans; what its walk holds of boxes and lists. Conditions: as each says.
-/
import Derived.Test.YtcdhpoikppfjkaaWbap
import Derived.Test.YtcdhpoikppfjkaaWbaj
set_option linter.unusedVariables false
set_option linter.unusedSimpArgs false
set_option linter.unnecessarySimpa false
namespace Go.Proofs.Ytcdhpoikppfjkaa
open Go.RowKit
attribute [local go_sem ↓] Go.wp_at_zero Go.wp_at_succ

theorem kpv {d : Nat → Bool} {i j : Nat} {s : Nat → Value} {k : Nat} {dst : Option Nat} {v x : Value} (h : d j = true → s k = x) (hj : j ≠ i) (hk : dst ≠ some k) : did d i j = true → sput s dst v k = x := fun e => by
  rw [did_ne d hj] at e
  unfold sput
  rw [if_neg hk]
  exact h e

theorem kpw {d : Nat → Bool} {i j : Nat} {s : Nat → Value} {k : Nat} {dst : Option Nat} {v x : Value} (h : d j = true → s k = x) (hj : j ≠ i := by decide) (hk : dst ≠ some k := by decide) : did d i j = true → sput s dst v k = x := kpv h hj hk
def OwM (W : World) (v : Value) (z : Nat) (l : List Nat) (n : Nat) (mo mr mk ml : Int) : Prop := ∃ g c, v = .agg #[.slice (some ⟨g, 0, none⟩) n c, .int .i64 mo, .int .i64 mr, .int .i64 mk, .int .i64 ml] ∧ Own W g l ∧ z ≤ g
def NbM (W : World) (v : Value) (z : Nat) : Prop := ∃ p x0 x1 x2 x3 x4, v = .pointer (some ⟨p, 0, none⟩) ∧ Blk W p 24 #[x0, x1, x2, x3, x4] ∧ z ≤ p
section
variable {W W' : World} {v : Value} {z n c : Nat} {l : List Nat} {mo mr mk ml xo xk xi off k inc : Int} {A : Option Addr}
theorem OwM.below (h : OwM W v z l n mo mr mk ml) (hb : Below W.heap.size W W') : OwM W' v z l n mo mr mk ml := by
  obtain ⟨g, c, h1, h2, h3⟩ := h; exact ⟨g, c, h1, h2.nxt hb, h3⟩
theorem NbM.below (h : NbM W v z) (hb : Below W.heap.size W W') : NbM W' v z := by
  obtain ⟨p, x0, x1, x2, x3, x4, h1, h2, h3⟩ := h; exact ⟨p, x0, x1, x2, x3, x4, h1, h2.nxt hb, h3⟩
theorem own_off {g p : Nat} (h : Own W g l) (hne : g ≠ p) (hb : ∀ k, k ≠ p → W'.heap[k]? = W.heap[k]?) : Own W' g l := by
  obtain ⟨cs, hB, ht⟩ := h
  exact ⟨cs, (hb g hne).trans hB, ht⟩
variable {p : Nat} {t : TypeId} {cs : Array Value}
theorem OwM.far (h : OwM W v z l n mo mr mk ml) (hB : Blk W p t cs) (ht : t ≠ 43) (hb : ∀ k, k ≠ p → W'.heap[k]? = W.heap[k]?) : OwM W' v z l n mo mr mk ml := by
  obtain ⟨g, c, h1, h2, h3⟩ := h; exact ⟨g, c, h1, own_off h2 (own_ne h2 hB ht) hb, h3⟩
theorem NbM.far (h : NbM W v z) (hne : v ≠ .pointer (some ⟨p, 0, none⟩)) (hb : ∀ k, k ≠ p → W'.heap[k]? = W.heap[k]?) : NbM W' v z := by
  obtain ⟨q, x0, x1, x2, x3, x4, h1, h2, h3⟩ := h; exact ⟨q, x0, x1, x2, x3, x4, h1, (hb q (fun e => hne (by rw [h1, e]))).trans h2, h3⟩
theorem NbM.ne_ (h : NbM W v z) (hB : Blk W p t cs) (ht : 24 ≠ t) : v ≠ .pointer (some ⟨p, 0, none⟩) := by
  obtain ⟨q, x0, x1, x2, x3, x4, h1, h2, h3⟩ := h
  intro e
  rw [h1] at e
  injection e with e; injection e with e; injection e with e
  exact blk_ne h2 hB ht e
end
def TbG (W : World) (v : Value) (S : List Nat → Prop) (r k N : Nat) : Prop := ∃ g c T, v = .agg #[.int .i64 (r : Int), .int .i64 (k : Int), .slice (some ⟨g, 0, none⟩) N c] ∧ S T ∧ Row W (some ⟨g, 0, none⟩) (f64s T)
def SlG (W : World) (v : Value) (S : List Nat → Prop) (N : Nat) : Prop := ∃ B d X, v = .slice B N d ∧ S X ∧ Row W B (f64s X)
theorem TbG.below {W W' : World} {v : Value} {S : List Nat → Prop} {r k N : Nat} (h : TbG W v S r k N) (hb : Below W.heap.size W W') : TbG W' v S r k N := by
  obtain ⟨g, c, T, h1, h2, h3⟩ := h; exact ⟨g, c, T, h1, h2, Row.below h3 hb⟩
theorem SlG.below {W W' : World} {v : Value} {S : List Nat → Prop} {N : Nat} (h : SlG W v S N) (hb : Below W.heap.size W W') : SlG W' v S N := by
  obtain ⟨B, d, X, h1, h2, h3⟩ := h; exact ⟨B, d, X, h1, h2, Row.below h3 hb⟩
def lbs (v : Option Value) : Nat := match v with | some (Value.slice (some ad) _ _) => ad.block | _ => 0
def lb (v : Value) : Nat := match v with | Value.agg a => lbs (a[0]?) | _ => 0
theorem lb_mat (g n c : Nat) (a b d e : Value) : lb (.agg #[.slice (some ⟨g, 0, none⟩) n c, a, b, d, e]) = g := rfl
theorem OwM.lb_lt {W : World} {v : Value} {z n : Nat} {l : List Nat} {mo mr mk ml : Int} (h : OwM W v z l n mo mr mk ml) : lb v < W.heap.size := by
  obtain ⟨g, c, rfl, h2, _⟩ := h; exact h2.lt
def PqM (W : World) (v : Value) (g z : Nat) (l : List Nat) (n : Nat) (mo mr mk ml : Int) : Prop := ∃ p c, v = .pointer (some ⟨p, 0, none⟩) ∧ Blk W p 24 #[.slice (some ⟨g, 0, none⟩) n c, .int .i64 mo, .int .i64 mr, .int .i64 mk, .int .i64 ml] ∧ Own W g l ∧ z ≤ p ∧ z ≤ g
section
variable {W W' : World} {v : Value} {g z n : Nat} {l : List Nat} {mo mr mk ml xo xk xi : Int} {p : Nat} {t : TypeId} {cs : Array Value}
theorem PqM.below (h : PqM W v g z l n mo mr mk ml) (hb : Below W.heap.size W W') : PqM W' v g z l n mo mr mk ml := by
  obtain ⟨p, c, h1, h2, h3, h4⟩ := h; exact ⟨p, c, h1, h2.nxt hb, h3.nxt hb, h4⟩
theorem PqM.far (h : PqM W v g z l n mo mr mk ml) (hB : Blk W p t cs) (ht : t ≠ 43) (hne : v ≠ .pointer (some ⟨p, 0, none⟩)) (hb : ∀ k, k ≠ p → W'.heap[k]? = W.heap[k]?) : PqM W' v g z l n mo mr mk ml := by
  obtain ⟨q, c, h1, h2, h3, h4⟩ := h
  exact ⟨q, c, h1, (hb q (fun e => hne (by rw [h1, e]))).trans h2, own_off h3 (own_ne h3 hB ht) hb, h4⟩
end
theorem apart_c (A : Option Addr) (n c : Nat) (l : List Nat) (mo mr mk ml : Int) (w : World) (hA : Row w A (f64s l)) (hl : l.length = n) (hn : n ≤ 1000) (W : World) (hb : Below w.heap.size w W) :
    Calls Try.prog 7 #[mat A n c mo mr mk ml] W fun e w' => ∃ g c', e = .returned (mat (some ⟨g, 0, none⟩) n c' mo mr mk ml) ∧ Own w' g l ∧ W.heap.size ≤ g ∧ Below W.heap.size W w' := by
  have := rapart_any A c l mo mr mk ml W (hA.below hb) (by omega)
  rw [hl] at this
  exact this.mono fun e w' ⟨g, c', e1, e2, e3, _, _, e4⟩ => ⟨g, c', e1, e2, e3, e4⟩
theorem all_c (l : List Nat) (n : Nat) (hW : Wds l) (hl : l.length = n) (hn : n ≤ 1000) (W : World) (A B : Option Addr) (c d : Nat) (h1 : Row W A (f64s l)) (h2 : Row W B (f64s l)) :
    Calls Try.prog 14 #[.slice A n c, .slice B n d] W fun e w' => e = .returned (.bool true) ∧ Below W.heap.size W w' := by
  have := rall_any A B c d l l W hW hW h1 h2 (by omega) (Alike.refl l)
  rw [hl] at this; exact this
theorem NbM.new_ne {W : World} {v : Value} {z : Nat} (h : NbM W v z) : v ≠ .pointer (some ⟨W.heap.size, 0, none⟩) := by
  obtain ⟨p, x0, x1, x2, x3, x4, rfl, h2, _⟩ := h
  have := h2.lt
  intro e
  injection e with e
  injection e with e
  injection e with e
  omega
end Go.Proofs.Ytcdhpoikppfjkaa
