/-
Sums' Dot, Asum, Most. Conditions: the lists have at most 2^20 numbers.
-/
import Derived.Test.YtbeefnekblepfaaUaal
import Derived.Test.YtbeefnekblepfaaUaaj
import Derived.Test.YtbeefnekblepfaaZGvD0
set_option linter.unusedVariables false
set_option linter.unusedSimpArgs false
set_option linter.unnecessarySimpa false
namespace Go.Proofs.Ytbeefnekblepfaa
open Go.RowKit
attribute [local go_sem ↓] Go.wp_at_zero Go.wp_at_succ

theorem heldN8 {w W : World} {b0 o0 b1 o1 b2 o2 b3 o3 b4 o4 b5 o5 b6 o6 b7 o7 : Nat} {v0 v1 v2 v3 v4 v5 v6 v7 : Value} (h : W.cell? ⟨b0, o0, none⟩ = some v0 ∧ W.cell? ⟨b1, o1, none⟩ = some v1 ∧ W.cell? ⟨b2, o2, none⟩ = some v2 ∧ W.cell? ⟨b3, o3, none⟩ = some v3 ∧ W.cell? ⟨b4, o4, none⟩ = some v4 ∧ W.cell? ⟨b5, o5, none⟩ = some v5 ∧ W.cell? ⟨b6, o6, none⟩ = some v6 ∧ W.cell? ⟨b7, o7, none⟩ = some v7 ∧ Below w.heap.size w W) (m : Nat) :
    (W.drewN m).cell? ⟨b0, o0, none⟩ = some v0 ∧ (W.drewN m).cell? ⟨b1, o1, none⟩ = some v1 ∧ (W.drewN m).cell? ⟨b2, o2, none⟩ = some v2 ∧ (W.drewN m).cell? ⟨b3, o3, none⟩ = some v3 ∧ (W.drewN m).cell? ⟨b4, o4, none⟩ = some v4 ∧ (W.drewN m).cell? ⟨b5, o5, none⟩ = some v5 ∧ (W.drewN m).cell? ⟨b6, o6, none⟩ = some v6 ∧ (W.drewN m).cell? ⟨b7, o7, none⟩ = some v7 ∧ Below w.heap.size w (W.drewN m) :=
  ⟨h.1, h.2.1, h.2.2.1, h.2.2.2.1, h.2.2.2.2.1, h.2.2.2.2.2.1, h.2.2.2.2.2.2.1, h.2.2.2.2.2.2.2.1, below_drewN h.2.2.2.2.2.2.2.2 m⟩
theorem heldM8 {w W : World} {b0 o0 b1 o1 b2 o2 b3 o3 b4 o4 b5 o5 b6 o6 b7 o7 a : Nat} {v0 v1 v2 v3 v4 v5 v6 v7 : Value} (h : (W.drewN a).cell? ⟨b0, o0, none⟩ = some v0 ∧ (W.drewN a).cell? ⟨b1, o1, none⟩ = some v1 ∧ (W.drewN a).cell? ⟨b2, o2, none⟩ = some v2 ∧ (W.drewN a).cell? ⟨b3, o3, none⟩ = some v3 ∧ (W.drewN a).cell? ⟨b4, o4, none⟩ = some v4 ∧ (W.drewN a).cell? ⟨b5, o5, none⟩ = some v5 ∧ (W.drewN a).cell? ⟨b6, o6, none⟩ = some v6 ∧ (W.drewN a).cell? ⟨b7, o7, none⟩ = some v7 ∧ Below w.heap.size w (W.drewN a)) (m : Nat) :
    (W.drewN m).cell? ⟨b0, o0, none⟩ = some v0 ∧ (W.drewN m).cell? ⟨b1, o1, none⟩ = some v1 ∧ (W.drewN m).cell? ⟨b2, o2, none⟩ = some v2 ∧ (W.drewN m).cell? ⟨b3, o3, none⟩ = some v3 ∧ (W.drewN m).cell? ⟨b4, o4, none⟩ = some v4 ∧ (W.drewN m).cell? ⟨b5, o5, none⟩ = some v5 ∧ (W.drewN m).cell? ⟨b6, o6, none⟩ = some v6 ∧ (W.drewN m).cell? ⟨b7, o7, none⟩ = some v7 ∧ Below w.heap.size w (W.drewN m) :=
  ⟨h.1, h.2.1, h.2.2.1, h.2.2.2.1, h.2.2.2.2.1, h.2.2.2.2.2.1, h.2.2.2.2.2.2.1, h.2.2.2.2.2.2.2.1, ⟨(h.2.2.2.2.2.2.2.2).os, (h.2.2.2.2.2.2.2.2).tape, (h.2.2.2.2.2.2.2.2).output, (h.2.2.2.2.2.2.2.2).size, (h.2.2.2.2.2.2.2.2).block⟩⟩
theorem dot_step {l m : List Nat} {k s p r a b : Nat} (hs : Is s (dotF l m k)) (ha : l.getD k 0 = a) (hb : m.getD k 0 = b) (hal : a < 18446744073709551616) (hbl : b < 18446744073709551616) (hp : Comes .mul a b p) (hr : Comes .add s p r) : Is r (dotF l m (k + 1)) := by
  show Is r (fbin .add (dotF l m k) (fbin .mul (l.getD k 0) (m.getD k 0)))
  rw [ha, hb]
  exact hr.is_ hs (hp.is_ (Is.refl hal) (Is.refl hbl))
theorem wds_lst2 {l : List Nat} (h : Wds l) (o i K : Nat) : Wds (lst l o i K) := by
  intro b hb
  unfold lst at hb
  obtain ⟨j, _, rfl⟩ := List.mem_map.1 hb
  rcases Nat.lt_or_ge (o + j * i) l.length with h1 | h1
  · rw [getD_of_lt h1]; exact h.at_ _ h1
  · rw [getD_of_le h1]; omega
theorem lst_wds {l : List Nat} (h : Wds l) (o i K k : Nat) : (lst l o i K).getD k 0 < 18446744073709551616 := by
  have : ∀ (m : List Nat), Wds m → m.getD k 0 < 18446744073709551616 := by
    intro m hm
    rcases Nat.lt_or_ge k m.length with h1 | h1
    · rw [getD_of_lt h1]; exact hm.at_ k h1
    · rw [getD_of_le h1]; omega
  refine this _ fun b hb => ?_
  unfold lst at hb
  obtain ⟨j, _, rfl⟩ := List.mem_map.1 hb
  rcases Nat.lt_or_ge (o + j * i) l.length with h1 | h1
  · rw [getD_of_lt h1]; exact h.at_ _ h1
  · rw [getD_of_le h1]; omega

end Go.Proofs.Ytbeefnekblepfaa
/-
Sums' Asum and Most. Conditions: the list has at most 2^20 numbers.
-/
set_option linter.unusedVariables false
set_option linter.unusedSimpArgs false
set_option linter.unnecessarySimpa false
namespace Go.Proofs.Ytbeefnekblepfaa
open Go.RowKit
attribute [local go_sem ↓] Go.wp_at_zero Go.wp_at_succ

theorem asum_step {l : List Nat} {k s r a : Nat} (hs : Is s (asumF l k)) (ha : l.getD k 0 = a) (hr : Comes .add s (absW a) r) : Is r (asumF l (k + 1)) := by
  show Is r (fbin .add (asumF l k) (absW (l.getD k 0)))
  rw [ha]
  exact hr.is_ hs (Is.refl (by have := absW_lt a; omega))

/-- The place that is told: -1 of no numbers. -/
def mostI (l : List Nat) : Int := if l.length = 0 then -1 else (mostF l l.length : Int)
end Go.Proofs.Ytbeefnekblepfaa
/-
The document's Asum, Most, Dot. Conditions: the lists have at most 2^20 numbers.
-/
set_option linter.unusedVariables false
set_option linter.unusedSimpArgs false
set_option linter.unnecessarySimpa false
namespace Go.Proofs.Ytbeefnekblepfaa
open Go.RowKit
attribute [local go_sem ↓] Go.wp_at_zero Go.wp_at_succ

theorem getD_wds {l : List Nat} (h : Wds l) (k : Nat) : l.getD k 0 < 18446744073709551616 := by
  rcases Nat.lt_or_ge k l.length with h1 | h1
  · rw [getD_of_lt h1]; exact h.at_ k h1
  · rw [getD_of_le h1]; omega
theorem Row.get0 {w : World} {A : Option Addr} {l : List Nat} {k : Nat} (h : Row w A (f64s l)) (hk : k < l.length) : ∃ b o, A = some ⟨b, o, none⟩ ∧ w.cell? ⟨b, o + k, none⟩ = some (.float .f64 (l.getD k 0)) := by
  obtain ⟨b, o, e, _, hc⟩ := h.at_ (f64s_get l k hk)
  exact ⟨b, o, e, by rw [getD_of_lt hk]; exact hc⟩

end Go.Proofs.Ytbeefnekblepfaa
/-
Gemv: Mul, MulT, Abs. Conditions: as each says.
-/
set_option linter.unusedVariables false
set_option linter.unusedSimpArgs false
set_option linter.unnecessarySimpa false
namespace Go.Proofs.Ytbeefnekblepfaa
open Go.RowKit
attribute [local go_sem ↓] Go.wp_at_zero Go.wp_at_succ

/-- A list in memory has a matrix' numbers, a vector's, whatever else it has. -/
def MLst (W : World) (g n : Nat) (l : List Nat) (o R C L : Nat) : Prop := ∃ l', Own W g l' ∧ l'.length = n ∧ Wds l' ∧ ∀ a, a < R → ∀ b, b < C → l'.getD (o + b * L + a) 0 = l.getD (o + b * L + a) 0
def VLst (W : World) (g n : Nat) (l : List Nat) (o K i : Nat) : Prop := ∃ l', Own W g l' ∧ l'.length = n ∧ Wds l' ∧ ∀ q, q < K → l'.getD (o + q * i) 0 = l.getD (o + q * i) 0
theorem MLst.nxt {W W' : World} {g n : Nat} {l : List Nat} {o R C L : Nat} (h : MLst W g n l o R C L) (hb : Below W.heap.size W W') : MLst W' g n l o R C L := by
  obtain ⟨l', h1, h2⟩ := h; exact ⟨l', h1.nxt hb, h2⟩
theorem VLst.nxt {W W' : World} {g n : Nat} {l : List Nat} {o K i : Nat} (h : VLst W g n l o K i) (hb : Below W.heap.size W W') : VLst W' g n l o K i := by
  obtain ⟨l', h1, h2⟩ := h; exact ⟨l', h1.nxt hb, h2⟩
theorem wds_set {l : List Nat} (h : Wds l) (p : Nat) {v : Nat} (hv : v < 18446744073709551616) : Wds (l.set p v) := by
  intro b hb
  rcases List.mem_or_eq_of_mem_set hb with h1 | h1
  · exact h b h1
  · subst h1; exact hv
theorem getD_set_far {l : List Nat} {p j v : Nat} (h : j ≠ p) : (l.set p v).getD j 0 = l.getD j 0 := by
  simp [List.getD, List.getElem?_set_ne (fun e => h e.symm)]
theorem MLst.set_ {W : World} {g g' n n' p v : Nat} {l : List Nat} {o R C L : Nat} (h : MLst W g n l o R C L) (hp : g = g' → p < n) (hv : v < 18446744073709551616) (hd : g = g' → ∀ a, a < R → ∀ b, b < C → o + b * L + a ≠ p) : MLst (W.setCell ⟨g', p, none⟩ (.float .f64 v)) g n l o R C L := by
  obtain ⟨l', h1, h2, h3, h4⟩ := h
  by_cases e : g = g'
  · subst e
    refine ⟨l'.set p v, h1.set_ p v (by rw [h2]; exact hp rfl), by rw [List.length_set, h2], wds_set h3 p hv, fun a ha b hb => ?_⟩
    rw [getD_set_far (hd rfl a ha b hb)]
    exact h4 a ha b hb
  · exact ⟨l', h1.other e _, h2, h3, h4⟩
theorem VLst.set_ {W : World} {g g' n n' p v : Nat} {l : List Nat} {o K i : Nat} (h : VLst W g n l o K i) (hp : g = g' → p < n) (hv : v < 18446744073709551616) (hd : g = g' → ∀ q, q < K → o + q * i ≠ p) : VLst (W.setCell ⟨g', p, none⟩ (.float .f64 v)) g n l o K i := by
  obtain ⟨l', h1, h2, h3, h4⟩ := h
  by_cases e : g = g'
  · subst e
    refine ⟨l'.set p v, h1.set_ p v (by rw [h2]; exact hp rfl), by rw [List.length_set, h2], wds_set h3 p hv, fun q hq => ?_⟩
    rw [getD_set_far (hd rfl q hq)]
    exact h4 q hq
  · exact ⟨l', h1.other e _, h2, h3, h4⟩
theorem lst_congr {l l' : List Nat} {o i K : Nat} (h : ∀ q, q < K → l'.getD (o + q * i) 0 = l.getD (o + q * i) 0) : lst l' o i K = lst l o i K := by
  refine ext_getD (by rw [lst_length, lst_length]) fun j hj => ?_
  rw [lst_length] at hj
  rw [lst_getD l' o i hj, lst_getD l o i hj]
  exact h j hj
/-- What MulT adds to a number. -/
def TurnR (a : Nat) (D s r : Nat) : Prop := ∃ d p, Is d D ∧ Comes .mul a d p ∧ Comes .add s p r

/-- What a number is then. -/
def MulQ (a b : Nat) (l : List Nat) (o i : Nat) (lm : List Nat) (om C L : Nat) (lx : List Nat) (ox ix q r : Nat) : Prop := ∃ s, BegR b (l.getD (o + q * i) 0) s ∧ Chn (ColS (MulR a) lm om L lx ox ix q) s C r
def TurnQ (a b : Nat) (l : List Nat) (o i : Nat) (lm : List Nat) (om R L : Nat) (lx : List Nat) (ox ix q r : Nat) : Prop := ∃ s, BegR b (l.getD (o + q * i) 0) s ∧ TurnR a (dotF (lst lm (om + q * L) 1 R) (lst lx ox ix R) R) s r
def AbsQ (l : List Nat) (o i : Nat) (lm : List Nat) (om C L : Nat) (lx : List Nat) (ox ix q r : Nat) : Prop := Chn (ColS AbsR lm om L lx ox ix q) (l.getD (o + q * i) 0) C r

set_option maxHeartbeats 1000000 in
theorem gvmul_err (a b : Nat) (Am : Option Addr) (nm cm : Nat) (mo mr mk ml : Int) (Ax : Option Addr) (nx cx : Nat) (xo xk xi : Int) (A : Option Addr) (n c : Nat) (off k inc : Int) (E : Int) (w : World) (hE : E ≠ 0)
    (hFit : ∀ W, Below w.heap.size w W → Calls Try.prog 49 #[mat Am nm cm mo mr mk ml, vec Ax nx cx xo xk xi, vec A n c off k inc, .int .i64 mk, .int .i64 mr] W fun e w' => e = .returned (.int .i64 E) ∧ Below W.heap.size W w') :
    Calls Try.prog 44 #[.float .f64 a, mat Am nm cm mo mr mk ml, vec Ax nx cx xo xk xi, .float .f64 b, vec A n c off k inc] w fun e w' => e = .returned (.int .i64 E) ∧ Below w.heap.size w w' := by
  have HFt := Lib.hid hFit
  have t1 : (E == 0) = false := by simp [hE]
  have t2 : (E != 0) = true := by simp [hE]
  clear hFit hE
  unfold mat vec at *
  go_enter Try.func44, Try.ntmps44
  have HA0 := Lib.hid ((((Blk.new_ w 23 #[.float .f64 a] (w.heap.size) (by simp)).alloc (.cells #[.slice Am nm cm, .int .i64 mo, .int .i64 mr, .int .i64 mk, .int .i64 ml] 26)).alloc (.cells #[.slice Ax nx cx, .int .i64 xo, .int .i64 xk, .int .i64 xi] 76)).alloc (.cells #[.slice A n c, .int .i64 off, .int .i64 k, .int .i64 inc] 76))
  have HM0 := Lib.hid (((Blk.new_ (w.alloc (.cells #[.float .f64 a] 23)) 26 #[.slice Am nm cm, .int .i64 mo, .int .i64 mr, .int .i64 mk, .int .i64 ml] (w.heap.size + 1) (by simp)).alloc (.cells #[.slice Ax nx cx, .int .i64 xo, .int .i64 xk, .int .i64 xi] 76)).alloc (.cells #[.slice A n c, .int .i64 off, .int .i64 k, .int .i64 inc] 76))
  have HX0 := Lib.hid ((Blk.new_ ((w.alloc (.cells #[.float .f64 a] 23)).alloc (.cells #[.slice Am nm cm, .int .i64 mo, .int .i64 mr, .int .i64 mk, .int .i64 ml] 26)) 76 #[.slice Ax nx cx, .int .i64 xo, .int .i64 xk, .int .i64 xi] (w.heap.size + 1 + 1) (by simp)).alloc (.cells #[.slice A n c, .int .i64 off, .int .i64 k, .int .i64 inc] 76))
  have HY0 := Lib.hid (Blk.new_ (((w.alloc (.cells #[.float .f64 a] 23)).alloc (.cells #[.slice Am nm cm, .int .i64 mo, .int .i64 mr, .int .i64 mk, .int .i64 ml] 26)).alloc (.cells #[.slice Ax nx cx, .int .i64 xo, .int .i64 xk, .int .i64 xi] 76)) 76 #[.slice A n c, .int .i64 off, .int .i64 k, .int .i64 inc] (w.heap.size + 1 + 1 + 1) (by simp))
  have HB0 := Lib.hid (((((Below.refl w.heap.size w).alloc (Nat.le_refl _) (.cells #[.float .f64 a] 23)).alloc (by simp) (.cells #[.slice Am nm cm, .int .i64 mo, .int .i64 mr, .int .i64 mk, .int .i64 ml] 26)).alloc (by simp; omega) (.cells #[.slice Ax nx cx, .int .i64 xo, .int .i64 xk, .int .i64 xi] 76)).alloc (by simp; omega) (.cells #[.slice A n c, .int .i64 off, .int .i64 k, .int .i64 inc] 76))
  obtain ⟨m0, m1, m2, m3, m4⟩ := cells5 HM0.out
  obtain ⟨x0, x1, x2, x3⟩ := cells4w HX0.out
  obtain ⟨y0, y1, y2, y3⟩ := cells4w HY0.out
  go_wp2_with fail
  refine (HFt.out _ HB0.out).mono ?_
  rintro e w1 ⟨rfl, hb⟩
  have HB1 := Lib.hid (below_nx HB0.out hb)
  clear hb m0 m1 m2 m3 m4 x0 x1 x2 x3 y0 y1 y2 y3
  go_wp2_with fail
  go_ret
  exact ⟨rfl, HB1.out⟩

set_option maxRecDepth 100000 in
set_option maxHeartbeats 2000000 in
theorem gvmul_ok (a b : Nat) (g c n : Nat) (l : List Nat) (o K i : Nat) (gm cm nm : Nat) (lm : List Nat) (om C L : Nat) (gx cx nx : Nat) (lx : List Nat) (ox ix : Nat) (w : World)
    (hO : Own w g l) (hl : l.length = n) (hn : n < 1048576) (hi1 : 1 ≤ i) (hr : K = 0 ∨ o + (K - 1) * i < n)
    (hM : Own w gm lm) (hlm : lm.length = nm) (hnm : nm < 1048576) (hL1 : 1 ≤ L) (hKL : K ≤ L) (hmr : K = 0 ∨ C = 0 ∨ om + (C - 1) * L + (K - 1) < nm) (hWm : Wds lm)
    (hX : Own w gx lx) (hlx : lx.length = nx) (hnx : nx < 1048576) (hix : 1 ≤ ix) (hxr : C = 0 ∨ ox + (C - 1) * ix < nx) (hWx : Wds lx) (hom : I64 om) (hLI : I64 L) (hox : I64 ox) (hixI : I64 ix) (hKb : K < 1048576) (hCb : C < 1048576)
    (hdm : gm = g → ∀ a, a < K → ∀ b, b < C → ∀ q, q < K → om + b * L + a ≠ o + q * i) (hdx : gx = g → ∀ b, b < C → ∀ q, q < K → ox + b * ix ≠ o + q * i)
    (hFit : ∀ W, Below w.heap.size w W → Calls Try.prog 49 #[mat (some ⟨gm, 0, none⟩) nm cm om K C L, vec (some ⟨gx, 0, none⟩) nx cx ox C ix, vec (some ⟨g, 0, none⟩) n c o K i, .int .i64 (C : Int), .int .i64 (K : Int)] W fun e w' => e = .returned (.int .i64 0) ∧ Below W.heap.size W w') :
    Calls Try.prog 44 #[.float .f64 a, mat (some ⟨gm, 0, none⟩) nm cm om K C L, vec (some ⟨gx, 0, none⟩) nx cx ox C ix, .float .f64 b, vec (some ⟨g, 0, none⟩) n c o K i] w fun e w' => e = .returned (.int .i64 0) ∧
      ∃ m : List Nat, m.length = K ∧ (∀ q, q < K → MulQ a b l o i lm om C L lx ox ix q (m.getD q 0)) ∧ Own w' g (wrt l o i m K) ∧ Chg [g] w w' := by
  have hRn : ∀ q, q < K → o + q * i < n := fun q hq => by
    rcases hr with h0 | h0
    · omega
    · exact place_lt h0 hq
  have HFt := Lib.hid hFit
  have HBg := Lib.hid (fun W (hb : Below w.heap.size w W) => gvbegin_any b g c l n o K i (fun W => (MCells W gm lm om K C L ∧ VCells W gx lx ox C ix)) W (hO.nxt hb) hl hn hi1 hr ⟨(mcells_own hM hlm hmr).nxt hb, (vcells_own hX hlx hxr).nxt hb⟩ (fun W W' h hb' => ⟨h.1.nxt hb', h.2.nxt hb'⟩) (fun W q v hq hv h => ⟨h.1.set_ (fun e a ha b hb => hdm e a ha b hb q hq) _, h.2.set_ (fun e b hb => hdx e b hb q hq) _⟩))
  have HCo := Lib.hid (fun W (l1 : List Nat) (pa : Nat) (hp : pa ≠ g) (hl1 : l1.length = n) (h1 : Own W g l1) (hI : (MCells W gm lm om K C L ∧ VCells W gx lx ox C ix)) (hA : W.cell? ⟨pa, 0, none⟩ = some (.float .f64 a)) =>
    gvcols_any 52 #[.pointer (some ⟨pa, 0, none⟩)] (fun W => W.cell? ⟨pa, 0, none⟩ = some (.float .f64 a)) (MulR a) g c n l1 o K i gm cm nm lm om C L gx cx nx lx ox ix W (fun args W => gvmul_enters args W) h1 hl1 hn hi1 hr
      hI.1 hnm hL1 hKL hmr hI.2 hnx hxr hom hLI hKb hCb hdm hdx hA (fun W W' h hb => cell_below h hb) (fun W q v hq h => (cell_set hp _).trans h)
      (fun W x f hx hf h => gvmul_one a (lm.getD (om + f * L + x) 0) (lx.getD (ox + f * ix) 0) pa W h))
  have Hw := Lib.hid (And.intro hi1 (show K = 0 ∨ o + (K - 1) * i < l.length by rw [hl]; exact hr))
  have Hl := Lib.hid hl
  have Hg := Lib.hid (show g < w.heap.size from hO.lt)
  clear hO hl hn hi1 hr hM hlm hnm hL1 hKL hmr hWm hX hlx hnx hix hxr hWx hom hLI hox hixI hdm hdx hFit hRn hKb hCb
  unfold mat vec at *
  go_enter Try.func44, Try.ntmps44
  have HA0 := Lib.hid ((((Blk.new_ w 23 #[.float .f64 a] (w.heap.size) (by simp)).alloc (.cells #[.slice (some ⟨gm, 0, none⟩) nm cm, .int .i64 om, .int .i64 K, .int .i64 C, .int .i64 L] 26)).alloc (.cells #[.slice (some ⟨gx, 0, none⟩) nx cx, .int .i64 ox, .int .i64 C, .int .i64 ix] 76)).alloc (.cells #[.slice (some ⟨g, 0, none⟩) n c, .int .i64 o, .int .i64 K, .int .i64 i] 76))
  have HM0 := Lib.hid (((Blk.new_ (w.alloc (.cells #[.float .f64 a] 23)) 26 #[.slice (some ⟨gm, 0, none⟩) nm cm, .int .i64 om, .int .i64 K, .int .i64 C, .int .i64 L] (w.heap.size + 1) (by simp)).alloc (.cells #[.slice (some ⟨gx, 0, none⟩) nx cx, .int .i64 ox, .int .i64 C, .int .i64 ix] 76)).alloc (.cells #[.slice (some ⟨g, 0, none⟩) n c, .int .i64 o, .int .i64 K, .int .i64 i] 76))
  have HX0 := Lib.hid ((Blk.new_ ((w.alloc (.cells #[.float .f64 a] 23)).alloc (.cells #[.slice (some ⟨gm, 0, none⟩) nm cm, .int .i64 om, .int .i64 K, .int .i64 C, .int .i64 L] 26)) 76 #[.slice (some ⟨gx, 0, none⟩) nx cx, .int .i64 ox, .int .i64 C, .int .i64 ix] (w.heap.size + 1 + 1) (by simp)).alloc (.cells #[.slice (some ⟨g, 0, none⟩) n c, .int .i64 o, .int .i64 K, .int .i64 i] 76))
  have HY0 := Lib.hid (Blk.new_ (((w.alloc (.cells #[.float .f64 a] 23)).alloc (.cells #[.slice (some ⟨gm, 0, none⟩) nm cm, .int .i64 om, .int .i64 K, .int .i64 C, .int .i64 L] 26)).alloc (.cells #[.slice (some ⟨gx, 0, none⟩) nx cx, .int .i64 ox, .int .i64 C, .int .i64 ix] 76)) 76 #[.slice (some ⟨g, 0, none⟩) n c, .int .i64 o, .int .i64 K, .int .i64 i] (w.heap.size + 1 + 1 + 1) (by simp))
  have HB0 := Lib.hid (((((Below.refl w.heap.size w).alloc (Nat.le_refl _) (.cells #[.float .f64 a] 23)).alloc (by simp) (.cells #[.slice (some ⟨gm, 0, none⟩) nm cm, .int .i64 om, .int .i64 K, .int .i64 C, .int .i64 L] 26)).alloc (by simp; omega) (.cells #[.slice (some ⟨gx, 0, none⟩) nx cx, .int .i64 ox, .int .i64 C, .int .i64 ix] 76)).alloc (by simp; omega) (.cells #[.slice (some ⟨g, 0, none⟩) n c, .int .i64 o, .int .i64 K, .int .i64 i] 76))
  obtain ⟨m0, m1, m2, m3, m4⟩ := cells5 HM0.out
  obtain ⟨x0, x1, x2, x3⟩ := cells4w HX0.out
  obtain ⟨y0, y1, y2, y3⟩ := cells4w HY0.out
  go_wp2_with fail
  refine (HFt.out _ HB0.out).mono ?_
  rintro e w1 ⟨rfl, hb⟩
  have HB1 := Lib.hid (below_nx HB0.out hb)
  have HM1 := Lib.hid (HM0.out.nxt hb)
  have HX1 := Lib.hid (HX0.out.nxt hb)
  have HY1 := Lib.hid (HY0.out.nxt hb)
  have HA1 := Lib.hid (HA0.out.nxt hb)
  clear hb m0 m1 m2 m3 m4 x0 x1 x2 x3 y0 y1 y2 y3
  obtain ⟨m0, m1, m2, m3, m4⟩ := cells5 HM1.out
  obtain ⟨x0, x1, x2, x3⟩ := cells4w HX1.out
  obtain ⟨y0, y1, y2, y3⟩ := cells4w HY1.out
  go_wp2_with fail
  refine (HBg.out _ HB1.out).mono ?_
  rintro e w2 ⟨rfl, m, hm1, hm2, hm3, hm4, hm5⟩
  have HN := Lib.hid (And.intro hm1 (And.intro hm2 (And.intro hm3 (And.intro hm4 hm5))))
  have hng : ∀ p, w.heap.size ≤ p → p ∉ [g] := fun p hp => by simp; have := Hg.out; omega
  have HM2 := Lib.hid (hm5.blk (hng _ (by omega)) HM1.out)
  have HX2 := Lib.hid (hm5.blk (hng _ (by omega)) HX1.out)
  have HY2 := Lib.hid (hm5.blk (hng _ (by omega)) HY1.out)
  have HA2 := Lib.hid (hm5.blk (hng _ (by omega)) HA1.out)
  clear hm1 hm2 hm3 hm4 hm5 hng m0 m1 m2 m3 m4 x0 x1 x2 x3 y0 y1 y2 y3
  obtain ⟨m0, m1, m2, m3, m4⟩ := cells5 HM2.out
  obtain ⟨x0, x1, x2, x3⟩ := cells4w HX2.out
  obtain ⟨y0, y1, y2, y3⟩ := cells4w HY2.out
  go_wp2_with fail
  refine (HCo.out _ _ _ (by have := Hg.out; omega) (by rw [wrt_length, Hl.out]) HN.out.2.2.1 HN.out.2.2.2.1 (HA2.out.cell 0)).mono ?_
  rintro e w3 ⟨rfl, m', hp1, hp2, hp3, hp5⟩
  have HQ := Lib.hid (And.intro hp1 (And.intro hp2 (And.intro hp3 hp5)))
  clear hp1 hp2 hp3 hp5 m0 m1 m2 m3 m4 x0 x1 x2 x3 y0 y1 y2 y3
  go_wp2_with fail
  go_ret
  obtain ⟨k1, k2, k3, k4⟩ := HQ.out
  obtain ⟨n1, n2, n3, n4, n5⟩ := HN.out
  rw [wrt_wrt l o i m m' K Hw.out.1 Hw.out.2] at k3
  refine ⟨rfl, m', k1, fun q hq => ⟨m.getD q 0, n2 q hq, ?_⟩, k3, ((Chg.of_below HB1.out).trans n5).trans k4⟩
  have := k2 q hq
  rw [wrt_at l o i m K Hw.out.1 Hw.out.2 hq] at this
  exact this

end Go.Proofs.Ytbeefnekblepfaa
