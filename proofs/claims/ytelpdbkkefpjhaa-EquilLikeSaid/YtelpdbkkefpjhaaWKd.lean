/-
The document's example; ViewRight. Conditions: none.
-/
import Derived.Test.YtelpdbkkefpjhaaZKVwC
import Derived.Deep.RegionWith
set_option linter.unusedVariables false
namespace Go.Proofs.Ytelpdbkkefpjhaa
open Go.RowKit
attribute [local go_sem ↓] Go.wp_at_zero Go.wp_at_succ

theorem run_field_D (A : Option Addr) (n c : Nat) (off r k ld : Int) (w : World) :
    (Instr.field 24 (.agg #[.slice A n c, .int .i64 off, .int .i64 r, .int .i64 k, .int .i64 ld]) 0).run Try.prog w = .ok (.slice A n c) w := by kernel_rfl
attribute [go_sem] run_field_D
theorem dense_ex {M : List Nat} {a b c d : Nat} (h : Dense [a, b, c, d] 2 2 M) : M = [a, c, b, d] := by
  obtain ⟨hl, hp⟩ := h
  match M, hl with
  | [x0, x1, x2, x3], _ =>
    have h0 := hp 0 (by omega)
    have h1 := hp 1 (by omega)
    have h2 := hp 2 (by omega)
    have h3 := hp 3 (by omega)
    simp [spot] at h0 h1 h2 h3
    simp [h0, h1, h2, h3]
end Go.Proofs.Ytelpdbkkefpjhaa
/-
The document's tables: New, Set, Of. Conditions: the lists' lengths are below 2^63, the tables have at most 2^40 numbers.
-/
set_option linter.unusedVariables false
namespace Go.Proofs.Ytelpdbkkefpjhaa
open Go.RowKit
attribute [local go_sem ↓] Go.wp_at_zero Go.wp_at_succ

theorem cells3v {w : World} {g : Nat} {t : TypeId} {v0 v1 v2 : Value} (h : Blk w g t #[v0, v1, v2]) :
    w.cell? ⟨g, 0, none⟩ = some v0 ∧ w.cell? ⟨g, 1, none⟩ = some v1 ∧ w.cell? ⟨g, 2, none⟩ = some v2 :=
  ⟨h.cell 0, h.cell 1, h.cell 2⟩
theorem frozen3v {w : World} {g : Nat} {t : TypeId} {v0 v1 v2 : Value} (h : Blk w g t #[v0, v1, v2]) :
    w.frozen? ⟨g, 0, none⟩ = false ∧ w.frozen? ⟨g, 1, none⟩ = false ∧ w.frozen? ⟨g, 2, none⟩ = false :=
  ⟨h.frozen 0, h.frozen 1, h.frozen 2⟩
theorem Blk.store3v {w : World} {g : Nat} {t : TypeId} {x0 x1 x2 : Value} (h : Blk w g t #[x0, x1, x2]) (u0 u1 u2 : Value) :
    Blk (((w.setCell ⟨g, 0, none⟩ u0).setCell ⟨g, 1, none⟩ u1).setCell ⟨g, 2, none⟩ u2) g t #[u0, u1, u2] := by
  have := ((h.set_ 0 u0).set_ 1 u1).set_ 2 u2
  simpa using this

theorem Only.alloc_ {g : Nat} {w w' : World} (h : Only g w w') (o : Obj) : Only g w (w'.alloc o) := h.trans (World.grownBy_alloc w' o _)
/-- A table. -/
def tbl (r k : Int) (g n c : Nat) : Value := .agg #[.int .i64 r, .int .i64 k, .slice (some ⟨g, 0, none⟩) n c]

theorem rnew_any (r k N : Nat) (w : World) (hN : r * k = N) (hb : N ≤ 1099511627776) (hr : r < 9223372036854775808) (hk : k < 9223372036854775808) :
    Calls Try.prog 33 #[.int .i64 r, .int .i64 k] w fun e w' => ∃ g, e = .returned (tbl r k g N N) ∧ Blk w' g 45 (f64s (List.replicate N 0)).toArray ∧ w.heap.size ≤ g ∧ Below w.heap.size w w' := by
  have hmk := fun V => frun_make N hb V
  have e1 : (r : Int) * (k : Int) = (N : Int) := by rw [← hN]; simp
  clear hN
  go_enter Try.func33, Try.ntmps33
  have hB := (Blk.new w 32 #[.int .i64 r, .int .i64 k, .slice (some ⟨w.heap.size + 1, 0, none⟩) N N]).alloc (.cells (f64s (List.replicate N 0)).toArray 45)
  have hB2 := Blk.new_ (w.alloc (.cells #[.int .i64 r, .int .i64 k, .slice (some ⟨w.heap.size + 1, 0, none⟩) N N] 32)) 45 (f64s (List.replicate N 0)).toArray (w.heap.size + 1) (by simp)
  obtain ⟨k0, k1, k2⟩ := cells3v hB
  have HB2 := Lib.hid hB2
  clear hB hB2
  go_wp2_with fail
  refine bodyPost_ret (v := tbl r k (w.heap.size + 1) N N) (by simp [results, Try.results33, go_sem, k0, k1, k2, tbl]) rfl ⟨w.heap.size + 1, rfl, HB2.out, by omega, ?_⟩
  exact ((Below.refl _ _).alloc (Nat.le_refl _) _).alloc (by simp) _

theorem rset_any (r k : Int) (g n c : Nat) (T : List Nat) (i j p v : Nat) (w : World) (hB : Blk w g 45 (f64s T).toArray) (hT : T.length = n) (hp : p < n) (hn : n < 9223372036854775808) (he : (i : Int) * k + (j : Int) = (p : Int)) (hm : I64 ((i : Int) * k)) :
    Calls Try.prog 34 #[tbl r k g n c, .int .i64 i, .int .i64 j, .float .f64 v] w fun e w' => e = .returned (.tuple #[]) ∧ Blk w' g 45 (f64s (T.set p v)).toArray ∧ Only g w w' := by
  unfold I64 at hm
  have hlt := hB.lt
  have hB2 := hB.alloc (.cells #[.int .i64 r, .int .i64 k, .slice (some ⟨g, 0, none⟩) n c] 32)
  have c0 := hB2.cell p
  rw [f64s_arr T p (by omega)] at c0
  have f0 := hB2.frozen p
  have hs := (hB.set_ p (.float .f64 v)).alloc (.cells #[.int .i64 r, .int .i64 k, .slice (some ⟨g, 0, none⟩) n c] 32)
  rw [f64s_set] at hs
  have HO := Lib.hid (((Only.refl g w).set_ p (.float .f64 v)).alloc_ (.cells #[.int .i64 r, .int .i64 k, .slice (some ⟨g, 0, none⟩) n c] 32))
  have HS := Lib.hid hs
  obtain ⟨x, hx⟩ : ∃ x, T[p]'(by omega) = x := ⟨_, rfl⟩
  rw [hx] at c0
  have w1 : IntKind.i64.wrap ((i : Int) * k) = (i : Int) * k := wrapi (by omega) (by omega)
  have w2 : IntKind.i64.wrap (p : Int) = (p : Int) := wrapi (by omega) (by omega)
  have hpn : (p : Int) < (n : Int) := by omega
  clear hx hs hB2 hB
  unfold tbl
  go_enter Try.func34, Try.ntmps34
  go_wp2_with fail
  go_end0
  exact ⟨rfl, HS.out, HO.out⟩
end Go.Proofs.Ytelpdbkkefpjhaa
