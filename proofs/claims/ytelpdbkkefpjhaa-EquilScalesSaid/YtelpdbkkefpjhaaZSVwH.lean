/-
Lists that are copied: Copy, Apart. Conditions: the lists have at most 2^20 numbers.
-/
import Derived.Test.YtelpdbkkefpjhaaWSg
import Derived.Laws.AppendOwn
set_option linter.unusedVariables false
namespace Go.Proofs.Ytelpdbkkefpjhaa
open Go.RowKit
attribute [local go_sem ↓] Go.wp_at_zero Go.wp_at_succ

/-- Block g is the call's own, and the list lies at its beginning. -/
def Own (w : World) (g : Nat) (l : List Nat) : Prop := ∃ cs : Array Value, Blk w g 45 cs ∧ cs.toList.take l.length = f64s l
section
variable {w w' : World} {g : Nat} {l : List Nat}
theorem Own.get (h : Own w g l) (i : Nat) (hi : i < l.length) : w.cell? ⟨g, i, none⟩ = some (.float .f64 l[i]) := by
  obtain ⟨cs, hB, ht⟩ := h
  rw [hB.cell i]
  have h1 : (cs.toList.take l.length)[i]? = some (.float .f64 l[i]) := by rw [ht]; exact f64s_get l i hi
  rw [List.getElem?_take_of_lt hi] at h1
  simpa using h1
theorem Own.row (h : Own w g l) : Row w (some ⟨g, 0, none⟩) (f64s l) :=
  .inr ⟨g, 0, rfl, fun i v hv => by
    obtain ⟨hi, rfl⟩ := f64s_get? hv
    rw [Nat.zero_add]; exact h.get i hi⟩
theorem Own.lt (h : Own w g l) : g < w.heap.size := by
  obtain ⟨cs, hB, _⟩ := h; exact hB.lt
theorem Own.frozen (h : Own w g l) (i : Nat) : w.frozen? ⟨g, i, none⟩ = false := by
  obtain ⟨cs, hB, _⟩ := h; exact hB.frozen i
theorem Own.nxt (h : Own w g l) (hb : Below w.heap.size w w') : Own w' g l := by
  obtain ⟨cs, hB, ht⟩ := h; exact ⟨cs, hB.nxt hb, ht⟩
theorem Own.only {k : Nat} (h : Own w g l) (hO : Only k w w') (hne : g ≠ k) : Own w' g l := by
  obtain ⟨cs, hB, ht⟩ := h; exact ⟨cs, hO.blk hne hB, ht⟩
theorem Own.set_ (h : Own w g l) (i v : Nat) (hi : i < l.length) : Own (w.setCell ⟨g, i, none⟩ (.float .f64 v)) g (l.set i v) := by
  obtain ⟨cs, hB, ht⟩ := h
  refine ⟨_, hB.set_ i _, ?_⟩
  rw [List.length_set, Array.toList_setIfInBounds, List.take_set, ht]
  simp [f64s, List.map_set]
theorem Own.drew (h : Own w g l) : Own w.drew g l := by
  obtain ⟨cs, hB, ht⟩ := h; exact ⟨cs, hB.drew, ht⟩
theorem Own.other (h : Own w g l) {p : Addr} (hp : g ≠ p.block) (u : Value) : Own (w.setCell p u) g l := by
  obtain ⟨cs, hB, ht⟩ := h; exact ⟨cs, hB.other hp u, ht⟩
theorem own_of {v : Value} {n : Nat} {B : Nat} (h : w.ownsRow B 45 1 v n (f64s l)) (hv : v ≠ .slice none 0 0) (hn : n = l.length) : ∃ g c, v = .slice (some ⟨g, 0, none⟩) n c ∧ B ≤ g ∧ n ≤ c ∧ c < 9223372036854775808 ∧ Own w g l := by
  obtain ⟨hl, ⟨h1, _⟩ | ⟨g, cap, cur, h1, h2, h3, h4, h5, h6, h7⟩⟩ := h
  · exact absurd h1 hv
  · exact ⟨g, cap, h1, h2, h4, by unfold maxLen at h5; omega, cur, h3, by rw [← hn]; simpa using h7⟩
end

theorem fi0 : ∃ i, Try.prog.info? 45 = some i ∧ i.zero = some (.float .f64 0) ∧ i.size = 1 ∧ i.bytes = 8 := by
  obtain ⟨i, hi, h⟩ := Option.map_eq_some_iff.1 info_f64
  simp only [Prod.mk.injEq] at h
  exact ⟨i, hi, h.1, h.2.1, h.2.2⟩
theorem row_add {w : World} {a : Addr} {l : List Nat} (h : Row w (some a) (f64s l)) : ∀ j u, (f64s l)[j]? = some u → w.cell? (a.add j) = some u := by
  intro j u hj
  rcases h with h | ⟨b, o, e, hc⟩
  · rw [h] at hj; cases hj
  · injection e with e
    subst e
    rw [Go.WideShapes.add_plain]
    exact hc j u hj
theorem one_cells (l : List Nat) : ∀ u ∈ f64s l, u.oneCell' = true := by
  intro u hu
  obtain ⟨b, _, rfl⟩ := List.mem_map.1 hu
  rfl
theorem own_empty (w : World) : (w.alloc (.cells #[] 45)).ownsRow w.heap.size 45 1 (.slice (some ⟨w.heap.size, 0, none⟩) 0 0) 0 [] :=
  ⟨rfl, .inr ⟨w.heap.size, 0, #[], rfl, Nat.le_refl _, heap_alloc_new w _, Nat.le_refl _, Nat.zero_le _, rfl, rfl⟩⟩

theorem own_empty_ (w : World) (n : Nat) (hn : w.heap.size = n) : (w.alloc (.cells #[] 45)).ownsRow n 45 1 (.slice (some ⟨n, 0, none⟩) 0 0) 0 [] := by
  subst hn; exact own_empty w

theorem run_append_nil (B c : Nat) (w : World) : (Builtin.append_ #[22, 22] 22 #[.slice (some ⟨B, 0, none⟩) 0 0, .slice none 0 c]).run Try.prog w = .ok (.slice (some ⟨B, 0, none⟩) 0 0) w := by kernel_rfl
attribute [go_sem] run_append_nil

theorem wpList_append_nil (w : World) {ops : Array Oper} {rest : List Oper} {o : Oper} {a : Act} {Q : Exit → Act → World → Prop} (hg : o.guard = none) (s x : Operand) (hty : o.type = 22)
    (hop : o.op = .call { callee := .builtin .append, args := #[s, x], argTypes := #[22, 22] }) (B c : Nat) (hs : a.eval s = .slice (some ⟨B, 0, none⟩) 0 0) (hx : a.eval x = .slice none 0 c)
    (h : ∀ w' g c', w' = w → g = B → c' = 0 → wpList Try.prog ops Q rest (a.put o.dst (.slice (some ⟨g, 0, none⟩) 0 c')) w') : wpList Try.prog ops Q (o :: rest) a w := by
  refine wpList_plain hg fun K hK => ?_
  unfold Oper.wp execOp
  simp only [hop, hty, resolve, invoke, builtin, Sem.run_bind, Sem.run_pure, Result.andThen_ok, List.map_toArray, List.map_cons, List.map_nil, hs, hx, run_append_nil]
  exact hK _ _ (h w B 0 rfl rfl rfl)

theorem rapart_some (a : Addr) (c : Nat) (l : List Nat) (off r k ld : Int) (w : World) (hA : Row w (some a) (f64s l)) (hl : l.length ≤ 1048576) :
    Calls Try.prog 14 #[mat (some a) l.length c off r k ld] w fun e w' => ∃ g c', e = .returned (mat (some ⟨g, 0, none⟩) l.length c' off r k ld) ∧ Own w' g l ∧ w.heap.size ≤ g ∧ l.length ≤ c' ∧ c' < 9223372036854775808 ∧ Below w.heap.size w w' := by
  obtain ⟨i0, hi, hz0, hz1, hz2⟩ := fi0
  have HA := Lib.hid hA
  clear hA
  unfold mat
  go_enter Try.func14, Try.ntmps14
  go_wp2_with (at_builtin; refine wpList_append_own _ rfl _ _ 22 rfl (w.heap.size + 1 + 1) 45 i0 (.float .f64 0) 1 8 Try.underlying22 hi hz0 hz1 hz2 rfl (by decide) _ _ _ rfl (own_empty_ _ _ (by simp)) a l.length c (f64s l) rfl (by simp [f64s]) ?c1 (one_cells l) ?c3 ?c4 ?c5 ?_)
  case c1 => exact row_add (HA.out.below ((((Below.refl _ _).alloc (Nat.le_refl _) _).alloc (by simp) _).alloc (by simp; omega) _))
  case c3 => unfold maxLen; omega
  case c4 => omega
  case c5 => simp
  intro v' w' hown hgrow hne
  obtain ⟨g, c', rfl, hg, hc, hm, ho⟩ := own_of hown hne rfl
  have hO : Only (w.heap.size + 1 + 1) (((w.alloc (.cells #[.slice (some a) l.length c, .int .i64 off, .int .i64 r, .int .i64 k, .int .i64 ld] 24)).alloc (.cells #[.slice none 0 0, .int .i64 0, .int .i64 0, .int .i64 0, .int .i64 0] 24)).alloc (.cells #[] 45)) w' := hgrow
  have HO := Lib.hid ho
  have HB := Lib.hid (((((Below.refl w.heap.size w).alloc (Nat.le_refl _) (.cells #[.slice (some a) l.length c, .int .i64 off, .int .i64 r, .int .i64 k, .int .i64 ld] 24)).alloc (by simp) (.cells #[.slice none 0 0, .int .i64 0, .int .i64 0, .int .i64 0, .int .i64 0] 24)).alloc (by simp; omega) (.cells #[] 45)).grown hgrow (by simp; omega) (fun k hk => by simp [Value.ownBlock] at hk; omega))
  have H0 := Lib.hid (hO.blk (by omega) (((Blk.new w 24 #[.slice (some a) l.length c, .int .i64 off, .int .i64 r, .int .i64 k, .int .i64 ld]).alloc (.cells #[.slice none 0 0, .int .i64 0, .int .i64 0, .int .i64 0, .int .i64 0] 24)).alloc (.cells #[] 45)))
  have H1 := Lib.hid (hO.blk (by omega) ((Blk.new_ (w.alloc (.cells #[.slice (some a) l.length c, .int .i64 off, .int .i64 r, .int .i64 k, .int .i64 ld] 24)) 24 #[.slice none 0 0, .int .i64 0, .int .i64 0, .int .i64 0, .int .i64 0] (w.heap.size + 1) (by simp)).alloc (.cells #[] 45)))
  clear ho hgrow hown hO
  have HSt := Lib.hid ((H1.out.other (p := ⟨w.heap.size, 0, none⟩) (by simp) (.slice (some ⟨g, 0, none⟩) l.length c')).store5 (.slice (some ⟨g, 0, none⟩) l.length c') (.int .i64 off) (.int .i64 r) (.int .i64 k) (.int .i64 ld))
  have HOw := Lib.hid (show Own ((((((w'.setCell ⟨w.heap.size, 0, none⟩ (.slice (some ⟨g, 0, none⟩) l.length c')).setCell ⟨w.heap.size + 1, 0, none⟩ (.slice (some ⟨g, 0, none⟩) l.length c')).setCell ⟨w.heap.size + 1, 1, none⟩ (.int .i64 off)).setCell ⟨w.heap.size + 1, 2, none⟩ (.int .i64 r)).setCell ⟨w.heap.size + 1, 3, none⟩ (.int .i64 k)).setCell ⟨w.heap.size + 1, 4, none⟩ (.int .i64 ld)) g l from ((((((HO.out.other (p := ⟨w.heap.size, _, none⟩) (by simp; omega) (.slice (some ⟨g, 0, none⟩) l.length c')).other (p := ⟨w.heap.size + 1, _, none⟩) (by simp; omega) (.slice (some ⟨g, 0, none⟩) l.length c')).other (p := ⟨w.heap.size + 1, _, none⟩) (by simp; omega) (.int .i64 off)).other (p := ⟨w.heap.size + 1, _, none⟩) (by simp; omega) (.int .i64 r)).other (p := ⟨w.heap.size + 1, _, none⟩) (by simp; omega) (.int .i64 k)).other (p := ⟨w.heap.size + 1, _, none⟩) (by simp; omega) (.int .i64 ld)))
  have HBl := Lib.hid (show Below w.heap.size w ((((((w'.setCell ⟨w.heap.size, 0, none⟩ (.slice (some ⟨g, 0, none⟩) l.length c')).setCell ⟨w.heap.size + 1, 0, none⟩ (.slice (some ⟨g, 0, none⟩) l.length c')).setCell ⟨w.heap.size + 1, 1, none⟩ (.int .i64 off)).setCell ⟨w.heap.size + 1, 2, none⟩ (.int .i64 r)).setCell ⟨w.heap.size + 1, 3, none⟩ (.int .i64 k)).setCell ⟨w.heap.size + 1, 4, none⟩ (.int .i64 ld)) from ((((((HB.out.setCell (p := ⟨w.heap.size, 0, none⟩) (by simp) (.slice (some ⟨g, 0, none⟩) l.length c')).setCell (p := ⟨w.heap.size + 1, 0, none⟩) (by simp) (.slice (some ⟨g, 0, none⟩) l.length c')).setCell (p := ⟨w.heap.size + 1, 1, none⟩) (by simp) (.int .i64 off)).setCell (p := ⟨w.heap.size + 1, 2, none⟩) (by simp) (.int .i64 r)).setCell (p := ⟨w.heap.size + 1, 3, none⟩) (by simp) (.int .i64 k)).setCell (p := ⟨w.heap.size + 1, 4, none⟩) (by simp) (.int .i64 ld)))
  obtain ⟨k0, k1, k2, k3, k4⟩ := cells5 H0.out
  obtain ⟨f0, _, _, _, _⟩ := frozen5 H0.out
  obtain ⟨z0, z1, z2, z3, z4⟩ := cells5 H1.out
  obtain ⟨y0, y1, y2, y3, y4⟩ := frozen5 H1.out
  go_wp2_with fail
  generalize ((((((w'.setCell ⟨w.heap.size, 0, none⟩ (.slice (some ⟨g, 0, none⟩) l.length c')).setCell ⟨w.heap.size + 1, 0, none⟩ (.slice (some ⟨g, 0, none⟩) l.length c')).setCell ⟨w.heap.size + 1, 1, none⟩ (.int .i64 off)).setCell ⟨w.heap.size + 1, 2, none⟩ (.int .i64 r)).setCell ⟨w.heap.size + 1, 3, none⟩ (.int .i64 k)).setCell ⟨w.heap.size + 1, 4, none⟩ (.int .i64 ld)) = W9 at *
  obtain ⟨j0, j1, j2, j3, j4⟩ := cells5 HSt.out
  exact bodyPost_ret (v := .agg #[.slice (some ⟨g, 0, none⟩) l.length c', .int .i64 off, .int .i64 r, .int .i64 k, .int .i64 ld]) (by simp [results, Try.results14, go_sem, j0, j1, j2, j3, j4]) rfl ⟨g, c', rfl, HOw.out, by omega, by omega, hm, HBl.out⟩

theorem rapart_nil (c : Nat) (off r k ld : Int) (w : World) :
    Calls Try.prog 14 #[mat none 0 c off r k ld] w fun e w' => ∃ g c', e = .returned (mat (some ⟨g, 0, none⟩) 0 c' off r k ld) ∧ Own w' g [] ∧ w.heap.size ≤ g ∧ 0 ≤ c' ∧ c' < 9223372036854775808 ∧ Below w.heap.size w w' := by
  unfold mat
  go_enter Try.func14, Try.ntmps14
  go_wp2_with (at_builtin; refine wpList_append_nil _ rfl _ _ rfl rfl _ _ rfl rfl ?_)
  intro w' g c' hw' hg hc'
  have hm : c' < 9223372036854775808 := by omega
  have HB := Lib.hid (show Below w.heap.size w w' by rw [hw']; exact (((Below.refl w.heap.size w).alloc (Nat.le_refl _) (.cells #[.slice none 0 c, .int .i64 off, .int .i64 r, .int .i64 k, .int .i64 ld] 24)).alloc (by simp) (.cells #[.slice none 0 0, .int .i64 0, .int .i64 0, .int .i64 0, .int .i64 0] 24)).alloc (by simp; omega) (.cells #[] 45))
  have H0 := Lib.hid (show Blk w' w.heap.size 24 #[.slice none 0 c, .int .i64 off, .int .i64 r, .int .i64 k, .int .i64 ld] by rw [hw']; exact ((Blk.new w 24 #[.slice none 0 c, .int .i64 off, .int .i64 r, .int .i64 k, .int .i64 ld]).alloc (.cells #[.slice none 0 0, .int .i64 0, .int .i64 0, .int .i64 0, .int .i64 0] 24)).alloc (.cells #[] 45))
  have H1 := Lib.hid (show Blk w' (w.heap.size + 1) 24 #[.slice none 0 0, .int .i64 0, .int .i64 0, .int .i64 0, .int .i64 0] by rw [hw']; exact (Blk.new_ (w.alloc (.cells #[.slice none 0 c, .int .i64 off, .int .i64 r, .int .i64 k, .int .i64 ld] 24)) 24 #[.slice none 0 0, .int .i64 0, .int .i64 0, .int .i64 0, .int .i64 0] (w.heap.size + 1) (by simp)).alloc (.cells #[] 45))
  have HO := Lib.hid (show Own w' g [] by rw [hw']; exact ⟨#[], Blk.new_ _ _ _ _ (by simp; omega), rfl⟩)
  have hg2 : w.heap.size + 1 + 1 ≤ g := by omega
  clear hw' hg hc'
  have HSt := Lib.hid ((H1.out.other (p := ⟨w.heap.size, 0, none⟩) (by simp) (.slice (some ⟨g, 0, none⟩) 0 c')).store5 (.slice (some ⟨g, 0, none⟩) 0 c') (.int .i64 off) (.int .i64 r) (.int .i64 k) (.int .i64 ld))
  have HOw := Lib.hid (show Own ((((((w'.setCell ⟨w.heap.size, 0, none⟩ (.slice (some ⟨g, 0, none⟩) 0 c')).setCell ⟨w.heap.size + 1, 0, none⟩ (.slice (some ⟨g, 0, none⟩) 0 c')).setCell ⟨w.heap.size + 1, 1, none⟩ (.int .i64 off)).setCell ⟨w.heap.size + 1, 2, none⟩ (.int .i64 r)).setCell ⟨w.heap.size + 1, 3, none⟩ (.int .i64 k)).setCell ⟨w.heap.size + 1, 4, none⟩ (.int .i64 ld)) g [] from ((((((HO.out.other (p := ⟨w.heap.size, _, none⟩) (by simp; omega) (.slice (some ⟨g, 0, none⟩) 0 c')).other (p := ⟨w.heap.size + 1, _, none⟩) (by simp; omega) (.slice (some ⟨g, 0, none⟩) 0 c')).other (p := ⟨w.heap.size + 1, _, none⟩) (by simp; omega) (.int .i64 off)).other (p := ⟨w.heap.size + 1, _, none⟩) (by simp; omega) (.int .i64 r)).other (p := ⟨w.heap.size + 1, _, none⟩) (by simp; omega) (.int .i64 k)).other (p := ⟨w.heap.size + 1, _, none⟩) (by simp; omega) (.int .i64 ld)))
  have HBl := Lib.hid (show Below w.heap.size w ((((((w'.setCell ⟨w.heap.size, 0, none⟩ (.slice (some ⟨g, 0, none⟩) 0 c')).setCell ⟨w.heap.size + 1, 0, none⟩ (.slice (some ⟨g, 0, none⟩) 0 c')).setCell ⟨w.heap.size + 1, 1, none⟩ (.int .i64 off)).setCell ⟨w.heap.size + 1, 2, none⟩ (.int .i64 r)).setCell ⟨w.heap.size + 1, 3, none⟩ (.int .i64 k)).setCell ⟨w.heap.size + 1, 4, none⟩ (.int .i64 ld)) from ((((((HB.out.setCell (p := ⟨w.heap.size, 0, none⟩) (by simp) (.slice (some ⟨g, 0, none⟩) 0 c')).setCell (p := ⟨w.heap.size + 1, 0, none⟩) (by simp) (.slice (some ⟨g, 0, none⟩) 0 c')).setCell (p := ⟨w.heap.size + 1, 1, none⟩) (by simp) (.int .i64 off)).setCell (p := ⟨w.heap.size + 1, 2, none⟩) (by simp) (.int .i64 r)).setCell (p := ⟨w.heap.size + 1, 3, none⟩) (by simp) (.int .i64 k)).setCell (p := ⟨w.heap.size + 1, 4, none⟩) (by simp) (.int .i64 ld)))
  obtain ⟨k0, k1, k2, k3, k4⟩ := cells5 H0.out
  obtain ⟨f0, _, _, _, _⟩ := frozen5 H0.out
  obtain ⟨z0, z1, z2, z3, z4⟩ := cells5 H1.out
  obtain ⟨y0, y1, y2, y3, y4⟩ := frozen5 H1.out
  go_wp2_with fail
  generalize ((((((w'.setCell ⟨w.heap.size, 0, none⟩ (.slice (some ⟨g, 0, none⟩) 0 c')).setCell ⟨w.heap.size + 1, 0, none⟩ (.slice (some ⟨g, 0, none⟩) 0 c')).setCell ⟨w.heap.size + 1, 1, none⟩ (.int .i64 off)).setCell ⟨w.heap.size + 1, 2, none⟩ (.int .i64 r)).setCell ⟨w.heap.size + 1, 3, none⟩ (.int .i64 k)).setCell ⟨w.heap.size + 1, 4, none⟩ (.int .i64 ld)) = W9 at *
  obtain ⟨j0, j1, j2, j3, j4⟩ := cells5 HSt.out
  exact bodyPost_ret (v := .agg #[.slice (some ⟨g, 0, none⟩) 0 c', .int .i64 off, .int .i64 r, .int .i64 k, .int .i64 ld]) (by simp [results, Try.results14, go_sem, j0, j1, j2, j3, j4]) rfl ⟨g, c', rfl, HOw.out, by omega, by omega, hm, HBl.out⟩

theorem rapart_any (A : Option Addr) (c : Nat) (l : List Nat) (off r k ld : Int) (w : World) (hA : Row w A (f64s l)) (hl : l.length ≤ 1048576) :
    Calls Try.prog 14 #[mat A l.length c off r k ld] w fun e w' => ∃ g c', e = .returned (mat (some ⟨g, 0, none⟩) l.length c' off r k ld) ∧ Own w' g l ∧ w.heap.size ≤ g ∧ l.length ≤ c' ∧ c' < 9223372036854775808 ∧ Below w.heap.size w w' := by
  cases A with
  | some a => exact rapart_some a c l off r k ld w hA hl
  | none =>
    rcases hA with h | ⟨b, o, h, _⟩
    · obtain rfl : l = [] := by simpa [f64s] using h
      exact rapart_nil c off r k ld w
    · cases h
end Go.Proofs.Ytelpdbkkefpjhaa
