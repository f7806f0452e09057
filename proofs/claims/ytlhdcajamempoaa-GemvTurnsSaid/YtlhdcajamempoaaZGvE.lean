/-
Gemv: Mul, MulT, Abs. Conditions: as each says.
-/
import Derived.Test.YtlhdcajamempoaaZGvD
import Derived.Test.YtlhdcajamempoaaGt
set_option linter.unusedVariables false
set_option linter.unusedSimpArgs false
set_option linter.unnecessarySimpa false
namespace Go.Proofs.Ytlhdcajamempoaa
open Go.RowKit
attribute [local go_sem ↓] Go.wp_at_zero Go.wp_at_succ

/-- A list in memory has a matrix' numbers, a vector's, whatever else it has. -/
def MLst (W : World) (g n : Nat) (l : List Nat) (o R C L : Nat) : Prop := ∃ l', Own W g l' ∧ l'.length = n ∧ Wds l' ∧ ∀ a, a < R → ∀ b, b < C → l'.getD (o + b * L + a) 0 = l.getD (o + b * L + a) 0
def VLst (W : World) (g n : Nat) (l : List Nat) (o K i : Nat) : Prop := ∃ l', Own W g l' ∧ l'.length = n ∧ Wds l' ∧ ∀ q, q < K → l'.getD (o + q * i) 0 = l.getD (o + q * i) 0
theorem MLst.nxt {W W' : World} {g n : Nat} {l : List Nat} {o R C L : Nat} (h : MLst W g n l o R C L) (hb : Below W.heap.size W W') : MLst W' g n l o R C L := by
  obtain ⟨l', h1, h2⟩ := h; exact ⟨l', h1.nxt hb, h2⟩
theorem VLst.nxt {W W' : World} {g n : Nat} {l : List Nat} {o K i : Nat} (h : VLst W g n l o K i) (hb : Below W.heap.size W W') : VLst W' g n l o K i := by
  obtain ⟨l', h1, h2⟩ := h; exact ⟨l', h1.nxt hb, h2⟩
theorem wds_set {l : List Nat} (h : Wds l) (p : Nat) {v : Nat} (hv : v < 18446744073709551616) : Wds (l.set p v) := by
  intro b hb
  rcases List.mem_or_eq_of_mem_set hb with h1 | h1
  · exact h b h1
  · subst h1; exact hv
theorem getD_set_far {l : List Nat} {p j v : Nat} (h : j ≠ p) : (l.set p v).getD j 0 = l.getD j 0 := by
  simp [List.getD, List.getElem?_set_ne (fun e => h e.symm)]
theorem MLst.set_ {W : World} {g g' n n' p v : Nat} {l : List Nat} {o R C L : Nat} (h : MLst W g n l o R C L) (hp : g = g' → p < n) (hv : v < 18446744073709551616) (hd : g = g' → ∀ a, a < R → ∀ b, b < C → o + b * L + a ≠ p) : MLst (W.setCell ⟨g', p, none⟩ (.float .f64 v)) g n l o R C L := by
  obtain ⟨l', h1, h2, h3, h4⟩ := h
  by_cases e : g = g'
  · subst e
    refine ⟨l'.set p v, h1.set_ p v (by rw [h2]; exact hp rfl), by rw [List.length_set, h2], wds_set h3 p hv, fun a ha b hb => ?_⟩
    rw [getD_set_far (hd rfl a ha b hb)]
    exact h4 a ha b hb
  · exact ⟨l', h1.other e _, h2, h3, h4⟩
theorem VLst.set_ {W : World} {g g' n n' p v : Nat} {l : List Nat} {o K i : Nat} (h : VLst W g n l o K i) (hp : g = g' → p < n) (hv : v < 18446744073709551616) (hd : g = g' → ∀ q, q < K → o + q * i ≠ p) : VLst (W.setCell ⟨g', p, none⟩ (.float .f64 v)) g n l o K i := by
  obtain ⟨l', h1, h2, h3, h4⟩ := h
  by_cases e : g = g'
  · subst e
    refine ⟨l'.set p v, h1.set_ p v (by rw [h2]; exact hp rfl), by rw [List.length_set, h2], wds_set h3 p hv, fun q hq => ?_⟩
    rw [getD_set_far (hd rfl q hq)]
    exact h4 q hq
  · exact ⟨l', h1.other e _, h2, h3, h4⟩
theorem lst_congr {l l' : List Nat} {o i K : Nat} (h : ∀ q, q < K → l'.getD (o + q * i) 0 = l.getD (o + q * i) 0) : lst l' o i K = lst l o i K := by
  refine ext_getD (by rw [lst_length, lst_length]) fun j hj => ?_
  rw [lst_length] at hj
  rw [lst_getD l' o i hj, lst_getD l o i hj]
  exact h j hj
/-- What MulT adds to a number. -/
def TurnR (a : Nat) (D s r : Nat) : Prop := ∃ d p, Is d D ∧ Comes .mul a d p ∧ Comes .add s p r

set_option maxRecDepth 100000 in
set_option maxHeartbeats 1000000 in
/-- What MulT does to a number. -/
theorem gvmult_one (a y pa pm px gm cm nm om R C L gx cx nx ox ix q O D : Nat) (I : World → Prop) (w : World) (hI : I w) (hIb : ∀ W W', I W → Below W.heap.size W W' → I W')
    (ha : w.cell? ⟨pa, 0, none⟩ = some (.float .f64 a)) (hm : Blk w pm 26 #[.slice (some ⟨gm, 0, none⟩) nm cm, .int .i64 (om : Int), .int .i64 (R : Int), .int .i64 (C : Int), .int .i64 (L : Int)]) (hx : Blk w px 32 #[.slice (some ⟨gx, 0, none⟩) nx cx, .int .i64 (ox : Int), .int .i64 (R : Int), .int .i64 (ix : Int)])
    (hCol : ∀ W, Calls Try.prog 50 #[mat (some ⟨gm, 0, none⟩) nm cm om R C L, .int .i64 (q : Int)] W fun e w' => e = .returned (vec (some ⟨gm, 0, none⟩) nm cm (O : Int) R 1) ∧ Below W.heap.size W w')
    (hDt : ∀ W, I W → Calls Try.prog 49 #[vec (some ⟨gm, 0, none⟩) nm cm (O : Int) R 1, vec (some ⟨gx, 0, none⟩) nx cx ox R ix] W fun e w' => ∃ r, e = .returned (.tuple #[.float .f64 r, .int .i64 0]) ∧ Is r D ∧ Below W.heap.size W w') :
    Calls Try.prog 48 #[.int .i64 (q : Int), .float .f64 y, .pointer (some ⟨pm, 0, none⟩), .pointer (some ⟨px, 0, none⟩), .pointer (some ⟨pa, 0, none⟩)] w fun e w' => ∃ r, e = .returned (.float .f64 r) ∧ TurnR a D y r ∧ Below w.heap.size w w' := by
  have HI := Lib.hid hI
  have HIb := Lib.hid hIb
  have HCol := Lib.hid hCol
  have HDt := Lib.hid hDt
  have HA := Lib.hid ha
  have HMb := Lib.hid hm
  have HXb := Lib.hid hx
  clear hI hIb hCol hDt ha hm hx
  unfold mat vec at *
  go_enter Try.func48, Try.ntmps48
  go_wp2_with fail
  refine wp_region_inv [11, 12, 13, 14, 15, 10, 16, 17, 8, 9] (fun d s W => (d 0 = true → s 11 = .agg #[.slice (some ⟨gm, 0, none⟩) nm cm, .int .i64 (om : Int), .int .i64 (R : Int), .int .i64 (C : Int), .int .i64 (L : Int)]) ∧ (d 1 = true → s 12 = .int .i64 (q : Int)) ∧ (d 2 = true → s 13 = .agg #[.slice (some ⟨gm, 0, none⟩) nm cm, .int .i64 (O : Int), .int .i64 (R : Int), .int .i64 1]) ∧ (d 3 = true → s 14 = .agg #[.slice (some ⟨gx, 0, none⟩) nx cx, .int .i64 (ox : Int), .int .i64 (R : Int), .int .i64 (ix : Int)]) ∧ (d 4 = true → ∃ r, s 15 = .tuple #[.float .f64 r, .int .i64 0] ∧ Is r D) ∧ (d 5 = true → ∃ r, s 10 = .tuple #[.float .f64 r, .int .i64 0] ∧ Is r D) ∧ (d 6 = true → ∃ r, s 16 = .float .f64 r ∧ Is r D) ∧ (d 7 = true → s 17 = .int .i64 0) ∧ (d 8 = true → ∃ r, s 8 = .float .f64 r ∧ Is r D) ∧ (d 9 = true → s 9 = .int .i64 0) ∧ Below w.heap.size w W)
    rfl (by kernel_rfl) ?_ ?_ ?_
  · exact ⟨by simp, by simp, by simp, by simp, by simp, by simp, by simp, by simp, by simp, by simp, (Below.refl _ _).drew⟩
  · refine ⟨?_, ?_, ?_, ?_, ?_, ?_, ?_, ?_, ?_, ?_, trivial⟩
    all_goals
      intro d s W hJ hfr hd hdep
      simp only [List.mem_cons, forall_eq_or_imp, List.not_mem_nil, false_implies, implies_true, and_true, Region.binds] at hdep
      have f0 := hfr 0 (by decide)
      have f2 := hfr 2 (by decide)
      have f3 := hfr 3 (by decide)
      simp at f0 f2 f3 hdep
      obtain ⟨h0, h1, h2, h3, h4, h5, h6, h7, h8, h9, hT⟩ := hJ
    · unfold OpSteps
      obtain ⟨p0, p1, p2, p3, p4⟩ := cells5 (HMb.out.below hT HMb.out.lt)
      simp [go_sem, evS, f2, p0, p1, p2, p3, p4]
      exact ⟨fun _ => by simp [sput], fun h => by simpa [sput] using h1 (by simpa [did] using h), fun h => by simpa [sput] using h2 (by simpa [did] using h), fun h => by simpa [sput] using h3 (by simpa [did] using h), fun h => by simpa [sput] using h4 (by simpa [did] using h), fun h => by simpa [sput] using h5 (by simpa [did] using h), fun h => by simpa [sput] using h6 (by simpa [did] using h), fun h => by simpa [sput] using h7 (by simpa [did] using h), fun h => by simpa [sput] using h8 (by simpa [did] using h), fun h => by simpa [sput] using h9 (by simpa [did] using h), hT⟩
    · unfold OpSteps
      simp [go_sem, evS, f0]
      exact ⟨fun h => by simpa [sput] using h0 (by simpa [did] using h), fun _ => by simp [sput], fun h => by simpa [sput] using h2 (by simpa [did] using h), fun h => by simpa [sput] using h3 (by simpa [did] using h), fun h => by simpa [sput] using h4 (by simpa [did] using h), fun h => by simpa [sput] using h5 (by simpa [did] using h), fun h => by simpa [sput] using h6 (by simpa [did] using h), fun h => by simpa [sput] using h7 (by simpa [did] using h), fun h => by simpa [sput] using h8 (by simpa [did] using h), fun h => by simpa [sput] using h9 (by simpa [did] using h), hT⟩
    · have g0 := h0 (by simp [hdep])
      have g1 := h1 (by simp [hdep])
      unfold OpSteps
      simp [go_sem, evS, g0, g1]
      refine (HCol.out W).mono ?_
      rintro e W' ⟨rfl, hb⟩
      refine ⟨_, rfl, ?_⟩
      exact ⟨fun h => by simpa [sput] using h0 (by simpa [did] using h), fun h => by simpa [sput] using h1 (by simpa [did] using h), fun _ => by simp [sput], fun h => by simpa [sput] using h3 (by simpa [did] using h), fun h => by simpa [sput] using h4 (by simpa [did] using h), fun h => by simpa [sput] using h5 (by simpa [did] using h), fun h => by simpa [sput] using h6 (by simpa [did] using h), fun h => by simpa [sput] using h7 (by simpa [did] using h), fun h => by simpa [sput] using h8 (by simpa [did] using h), fun h => by simpa [sput] using h9 (by simpa [did] using h), below_nx hT hb⟩
    · unfold OpSteps
      obtain ⟨p0, p1, p2, p3⟩ := cells4w (HXb.out.below hT HXb.out.lt)
      simp [go_sem, evS, f3, p0, p1, p2, p3]
      exact ⟨fun h => by simpa [sput] using h0 (by simpa [did] using h), fun h => by simpa [sput] using h1 (by simpa [did] using h), fun h => by simpa [sput] using h2 (by simpa [did] using h), fun _ => by simp [sput], fun h => by simpa [sput] using h4 (by simpa [did] using h), fun h => by simpa [sput] using h5 (by simpa [did] using h), fun h => by simpa [sput] using h6 (by simpa [did] using h), fun h => by simpa [sput] using h7 (by simpa [did] using h), fun h => by simpa [sput] using h8 (by simpa [did] using h), fun h => by simpa [sput] using h9 (by simpa [did] using h), hT⟩
    · have g2 := h2 (by simp [hdep])
      have g3 := h3 (by simp [hdep])
      unfold OpSteps
      simp [go_sem, evS, g2, g3]
      refine (HDt.out W (HIb.out _ _ HI.out hT)).mono ?_
      rintro e W' ⟨r, rfl, hr, hb⟩
      refine ⟨_, rfl, ?_⟩
      exact ⟨fun h => by simpa [sput] using h0 (by simpa [did] using h), fun h => by simpa [sput] using h1 (by simpa [did] using h), fun h => by simpa [sput] using h2 (by simpa [did] using h), fun h => by simpa [sput] using h3 (by simpa [did] using h), fun _ => ⟨r, by simp [sput], hr⟩, fun h => by simpa [sput] using h5 (by simpa [did] using h), fun h => by simpa [sput] using h6 (by simpa [did] using h), fun h => by simpa [sput] using h7 (by simpa [did] using h), fun h => by simpa [sput] using h8 (by simpa [did] using h), fun h => by simpa [sput] using h9 (by simpa [did] using h), below_nx hT hb⟩
    · have g4 := h4 (by simp [hdep])
      unfold OpSteps
      obtain ⟨r, gp, hr⟩ := g4
      simp [go_sem, evS, gp]
      exact ⟨fun h => by simpa [sput] using h0 (by simpa [did] using h), fun h => by simpa [sput] using h1 (by simpa [did] using h), fun h => by simpa [sput] using h2 (by simpa [did] using h), fun h => by simpa [sput] using h3 (by simpa [did] using h), fun h => by simpa [sput] using h4 (by simpa [did] using h), fun _ => ⟨r, by simp [sput], hr⟩, fun h => by simpa [sput] using h6 (by simpa [did] using h), fun h => by simpa [sput] using h7 (by simpa [did] using h), fun h => by simpa [sput] using h8 (by simpa [did] using h), fun h => by simpa [sput] using h9 (by simpa [did] using h), hT⟩
    · have g5 := h5 (by simp [hdep])
      unfold OpSteps
      obtain ⟨r, gp, hr⟩ := g5
      simp [go_sem, evS, gp]
      exact ⟨fun h => by simpa [sput] using h0 (by simpa [did] using h), fun h => by simpa [sput] using h1 (by simpa [did] using h), fun h => by simpa [sput] using h2 (by simpa [did] using h), fun h => by simpa [sput] using h3 (by simpa [did] using h), fun h => by simpa [sput] using h4 (by simpa [did] using h), fun h => by simpa [sput] using h5 (by simpa [did] using h), fun _ => ⟨r, by simp [sput], hr⟩, fun h => by simpa [sput] using h7 (by simpa [did] using h), fun h => by simpa [sput] using h8 (by simpa [did] using h), fun h => by simpa [sput] using h9 (by simpa [did] using h), hT⟩
    · have g5 := h5 (by simp [hdep])
      unfold OpSteps
      obtain ⟨r, gp, hr⟩ := g5
      simp [go_sem, evS, gp]
      exact ⟨fun h => by simpa [sput] using h0 (by simpa [did] using h), fun h => by simpa [sput] using h1 (by simpa [did] using h), fun h => by simpa [sput] using h2 (by simpa [did] using h), fun h => by simpa [sput] using h3 (by simpa [did] using h), fun h => by simpa [sput] using h4 (by simpa [did] using h), fun h => by simpa [sput] using h5 (by simpa [did] using h), fun h => by simpa [sput] using h6 (by simpa [did] using h), fun _ => by simp [sput], fun h => by simpa [sput] using h8 (by simpa [did] using h), fun h => by simpa [sput] using h9 (by simpa [did] using h), hT⟩
    · have g6 := h6 (by simp [hdep])
      unfold OpSteps
      obtain ⟨r, gp, hr⟩ := g6
      simp [go_sem, evS, gp]
      exact ⟨fun h => by simpa [sput] using h0 (by simpa [did] using h), fun h => by simpa [sput] using h1 (by simpa [did] using h), fun h => by simpa [sput] using h2 (by simpa [did] using h), fun h => by simpa [sput] using h3 (by simpa [did] using h), fun h => by simpa [sput] using h4 (by simpa [did] using h), fun h => by simpa [sput] using h5 (by simpa [did] using h), fun h => by simpa [sput] using h6 (by simpa [did] using h), fun h => by simpa [sput] using h7 (by simpa [did] using h), fun _ => ⟨r, by simp [sput], hr⟩, fun h => by simpa [sput] using h9 (by simpa [did] using h), hT⟩
    · have g7 := h7 (by simp [hdep])
      unfold OpSteps
      simp [go_sem, evS, g7]
      exact ⟨fun h => by simpa [sput] using h0 (by simpa [did] using h), fun h => by simpa [sput] using h1 (by simpa [did] using h), fun h => by simpa [sput] using h2 (by simpa [did] using h), fun h => by simpa [sput] using h3 (by simpa [did] using h), fun h => by simpa [sput] using h4 (by simpa [did] using h), fun h => by simpa [sput] using h5 (by simpa [did] using h), fun h => by simpa [sput] using h6 (by simpa [did] using h), fun h => by simpa [sput] using h7 (by simpa [did] using h), fun h => by simpa [sput] using h8 (by simpa [did] using h), fun _ => by simp [sput], hT⟩
  intro d s W hJ hd
  obtain ⟨h0, h1, h2, h3, h4, h5, h6, h7, h8, h9, hT⟩ := hJ
  obtain ⟨r, hs, hr⟩ := h8 (hd 8 (by decide))
  have hs9 := h9 (hd 9 (by decide))
  have HR := Lib.hid hr
  have HBw := Lib.hid hT
  have HAc := Lib.hid (cell_below HA.out hT)
  clear h0 h1 h2 h3 h4 h5 h6 h7 h8 h9 hT hd hr
  simp [setAll, hs, hs9]
  clear hs hs9
  generalize s 11 = s11
  generalize s 12 = s12
  generalize s 13 = s13
  generalize s 14 = s14
  generalize s 15 = s15
  generalize s 10 = s10
  generalize s 16 = s16
  generalize s 17 = s17
  have a0 := HAc.out
  generalize hW1 : W = wa at *
  clear hW1
  go_wp2_with fail
  go_ret
  exact ⟨_, rfl, ⟨r, _, HR.out, fres_comes _ _ _ _, fres_comes _ _ _ _⟩, below_drewN HBw.out _⟩

/-- What a number is then. -/
def MulQ (a b : Nat) (l : List Nat) (o i : Nat) (lm : List Nat) (om C L : Nat) (lx : List Nat) (ox ix q r : Nat) : Prop := ∃ s, BegR b (l.getD (o + q * i) 0) s ∧ Chn (ColS (MulR a) lm om L lx ox ix q) s C r
def TurnQ (a b : Nat) (l : List Nat) (o i : Nat) (lm : List Nat) (om R L : Nat) (lx : List Nat) (ox ix q r : Nat) : Prop := ∃ s, BegR b (l.getD (o + q * i) 0) s ∧ TurnR a (dotF (lst lm (om + q * L) 1 R) (lst lx ox ix R) R) s r
def AbsQ (l : List Nat) (o i : Nat) (lm : List Nat) (om C L : Nat) (lx : List Nat) (ox ix q r : Nat) : Prop := Chn (ColS AbsR lm om L lx ox ix q) (l.getD (o + q * i) 0) C r

set_option maxHeartbeats 1000000 in
theorem gvmul_err (a b : Nat) (Am : Option Addr) (nm cm : Nat) (mo mr mk ml : Int) (Ax : Option Addr) (nx cx : Nat) (xo xk xi : Int) (A : Option Addr) (n c : Nat) (off k inc : Int) (E : Int) (w : World) (hE : E ≠ 0)
    (hFit : ∀ W, Below w.heap.size w W → Calls Try.prog 45 #[mat Am nm cm mo mr mk ml, vec Ax nx cx xo xk xi, vec A n c off k inc, .int .i64 mk, .int .i64 mr] W fun e w' => e = .returned (.int .i64 E) ∧ Below W.heap.size W w') :
    Calls Try.prog 11 #[.float .f64 a, mat Am nm cm mo mr mk ml, vec Ax nx cx xo xk xi, .float .f64 b, vec A n c off k inc] w fun e w' => e = .returned (.int .i64 E) ∧ Below w.heap.size w w' := by
  have HFt := Lib.hid hFit
  have t1 : (E == 0) = false := by simp [hE]
  have t2 : (E != 0) = true := by simp [hE]
  clear hFit hE
  unfold mat vec at *
  go_enter Try.func11, Try.ntmps11
  have HA0 := Lib.hid ((((Blk.new_ w 28 #[.float .f64 a] (w.heap.size) (by simp)).alloc (.cells #[.slice Am nm cm, .int .i64 mo, .int .i64 mr, .int .i64 mk, .int .i64 ml] 26)).alloc (.cells #[.slice Ax nx cx, .int .i64 xo, .int .i64 xk, .int .i64 xi] 32)).alloc (.cells #[.slice A n c, .int .i64 off, .int .i64 k, .int .i64 inc] 32))
  have HM0 := Lib.hid (((Blk.new_ (w.alloc (.cells #[.float .f64 a] 28)) 26 #[.slice Am nm cm, .int .i64 mo, .int .i64 mr, .int .i64 mk, .int .i64 ml] (w.heap.size + 1) (by simp)).alloc (.cells #[.slice Ax nx cx, .int .i64 xo, .int .i64 xk, .int .i64 xi] 32)).alloc (.cells #[.slice A n c, .int .i64 off, .int .i64 k, .int .i64 inc] 32))
  have HX0 := Lib.hid ((Blk.new_ ((w.alloc (.cells #[.float .f64 a] 28)).alloc (.cells #[.slice Am nm cm, .int .i64 mo, .int .i64 mr, .int .i64 mk, .int .i64 ml] 26)) 32 #[.slice Ax nx cx, .int .i64 xo, .int .i64 xk, .int .i64 xi] (w.heap.size + 1 + 1) (by simp)).alloc (.cells #[.slice A n c, .int .i64 off, .int .i64 k, .int .i64 inc] 32))
  have HY0 := Lib.hid (Blk.new_ (((w.alloc (.cells #[.float .f64 a] 28)).alloc (.cells #[.slice Am nm cm, .int .i64 mo, .int .i64 mr, .int .i64 mk, .int .i64 ml] 26)).alloc (.cells #[.slice Ax nx cx, .int .i64 xo, .int .i64 xk, .int .i64 xi] 32)) 32 #[.slice A n c, .int .i64 off, .int .i64 k, .int .i64 inc] (w.heap.size + 1 + 1 + 1) (by simp))
  have HB0 := Lib.hid (((((Below.refl w.heap.size w).alloc (Nat.le_refl _) (.cells #[.float .f64 a] 28)).alloc (by simp) (.cells #[.slice Am nm cm, .int .i64 mo, .int .i64 mr, .int .i64 mk, .int .i64 ml] 26)).alloc (by simp; omega) (.cells #[.slice Ax nx cx, .int .i64 xo, .int .i64 xk, .int .i64 xi] 32)).alloc (by simp; omega) (.cells #[.slice A n c, .int .i64 off, .int .i64 k, .int .i64 inc] 32))
  obtain ⟨m0, m1, m2, m3, m4⟩ := cells5 HM0.out
  obtain ⟨x0, x1, x2, x3⟩ := cells4w HX0.out
  obtain ⟨y0, y1, y2, y3⟩ := cells4w HY0.out
  go_wp2_with fail
  refine (HFt.out _ HB0.out).mono ?_
  rintro e w1 ⟨rfl, hb⟩
  have HB1 := Lib.hid (below_nx HB0.out hb)
  clear hb m0 m1 m2 m3 m4 x0 x1 x2 x3 y0 y1 y2 y3
  go_wp2_with fail
  go_ret
  exact ⟨rfl, HB1.out⟩

set_option maxHeartbeats 1000000 in
theorem gvmult_err (a b : Nat) (Am : Option Addr) (nm cm : Nat) (mo mr mk ml : Int) (Ax : Option Addr) (nx cx : Nat) (xo xk xi : Int) (A : Option Addr) (n c : Nat) (off k inc : Int) (E : Int) (w : World) (hE : E ≠ 0)
    (hFit : ∀ W, Below w.heap.size w W → Calls Try.prog 45 #[mat Am nm cm mo mr mk ml, vec Ax nx cx xo xk xi, vec A n c off k inc, .int .i64 mr, .int .i64 mk] W fun e w' => e = .returned (.int .i64 E) ∧ Below W.heap.size W w') :
    Calls Try.prog 10 #[.float .f64 a, mat Am nm cm mo mr mk ml, vec Ax nx cx xo xk xi, .float .f64 b, vec A n c off k inc] w fun e w' => e = .returned (.int .i64 E) ∧ Below w.heap.size w w' := by
  have HFt := Lib.hid hFit
  have t1 : (E == 0) = false := by simp [hE]
  have t2 : (E != 0) = true := by simp [hE]
  clear hFit hE
  unfold mat vec at *
  go_enter Try.func10, Try.ntmps10
  have HA0 := Lib.hid ((((Blk.new_ w 28 #[.float .f64 a] (w.heap.size) (by simp)).alloc (.cells #[.slice Am nm cm, .int .i64 mo, .int .i64 mr, .int .i64 mk, .int .i64 ml] 26)).alloc (.cells #[.slice Ax nx cx, .int .i64 xo, .int .i64 xk, .int .i64 xi] 32)).alloc (.cells #[.slice A n c, .int .i64 off, .int .i64 k, .int .i64 inc] 32))
  have HM0 := Lib.hid (((Blk.new_ (w.alloc (.cells #[.float .f64 a] 28)) 26 #[.slice Am nm cm, .int .i64 mo, .int .i64 mr, .int .i64 mk, .int .i64 ml] (w.heap.size + 1) (by simp)).alloc (.cells #[.slice Ax nx cx, .int .i64 xo, .int .i64 xk, .int .i64 xi] 32)).alloc (.cells #[.slice A n c, .int .i64 off, .int .i64 k, .int .i64 inc] 32))
  have HX0 := Lib.hid ((Blk.new_ ((w.alloc (.cells #[.float .f64 a] 28)).alloc (.cells #[.slice Am nm cm, .int .i64 mo, .int .i64 mr, .int .i64 mk, .int .i64 ml] 26)) 32 #[.slice Ax nx cx, .int .i64 xo, .int .i64 xk, .int .i64 xi] (w.heap.size + 1 + 1) (by simp)).alloc (.cells #[.slice A n c, .int .i64 off, .int .i64 k, .int .i64 inc] 32))
  have HY0 := Lib.hid (Blk.new_ (((w.alloc (.cells #[.float .f64 a] 28)).alloc (.cells #[.slice Am nm cm, .int .i64 mo, .int .i64 mr, .int .i64 mk, .int .i64 ml] 26)).alloc (.cells #[.slice Ax nx cx, .int .i64 xo, .int .i64 xk, .int .i64 xi] 32)) 32 #[.slice A n c, .int .i64 off, .int .i64 k, .int .i64 inc] (w.heap.size + 1 + 1 + 1) (by simp))
  have HB0 := Lib.hid (((((Below.refl w.heap.size w).alloc (Nat.le_refl _) (.cells #[.float .f64 a] 28)).alloc (by simp) (.cells #[.slice Am nm cm, .int .i64 mo, .int .i64 mr, .int .i64 mk, .int .i64 ml] 26)).alloc (by simp; omega) (.cells #[.slice Ax nx cx, .int .i64 xo, .int .i64 xk, .int .i64 xi] 32)).alloc (by simp; omega) (.cells #[.slice A n c, .int .i64 off, .int .i64 k, .int .i64 inc] 32))
  obtain ⟨m0, m1, m2, m3, m4⟩ := cells5 HM0.out
  obtain ⟨x0, x1, x2, x3⟩ := cells4w HX0.out
  obtain ⟨y0, y1, y2, y3⟩ := cells4w HY0.out
  go_wp2_with fail
  refine (HFt.out _ HB0.out).mono ?_
  rintro e w1 ⟨rfl, hb⟩
  have HB1 := Lib.hid (below_nx HB0.out hb)
  clear hb m0 m1 m2 m3 m4 x0 x1 x2 x3 y0 y1 y2 y3
  go_wp2_with fail
  go_ret
  exact ⟨rfl, HB1.out⟩

set_option maxHeartbeats 1000000 in
theorem gvabs_err (Am : Option Addr) (nm cm : Nat) (mo mr mk ml : Int) (Ax : Option Addr) (nx cx : Nat) (xo xk xi : Int) (A : Option Addr) (n c : Nat) (off k inc : Int) (E : Int) (w : World) (hE : E ≠ 0)
    (hFit : ∀ W, Below w.heap.size w W → Calls Try.prog 45 #[mat Am nm cm mo mr mk ml, vec Ax nx cx xo xk xi, vec A n c off k inc, .int .i64 mk, .int .i64 mr] W fun e w' => e = .returned (.int .i64 E) ∧ Below W.heap.size W w') :
    Calls Try.prog 42 #[mat Am nm cm mo mr mk ml, vec Ax nx cx xo xk xi, vec A n c off k inc] w fun e w' => e = .returned (.int .i64 E) ∧ Below w.heap.size w w' := by
  have HFt := Lib.hid hFit
  have t1 : (E == 0) = false := by simp [hE]
  have t2 : (E != 0) = true := by simp [hE]
  clear hFit hE
  unfold mat vec at *
  go_enter Try.func42, Try.ntmps42
  have HM0 := Lib.hid (((Blk.new_ w 26 #[.slice Am nm cm, .int .i64 mo, .int .i64 mr, .int .i64 mk, .int .i64 ml] (w.heap.size) (by simp)).alloc (.cells #[.slice Ax nx cx, .int .i64 xo, .int .i64 xk, .int .i64 xi] 32)).alloc (.cells #[.slice A n c, .int .i64 off, .int .i64 k, .int .i64 inc] 32))
  have HX0 := Lib.hid ((Blk.new_ (w.alloc (.cells #[.slice Am nm cm, .int .i64 mo, .int .i64 mr, .int .i64 mk, .int .i64 ml] 26)) 32 #[.slice Ax nx cx, .int .i64 xo, .int .i64 xk, .int .i64 xi] (w.heap.size + 1) (by simp)).alloc (.cells #[.slice A n c, .int .i64 off, .int .i64 k, .int .i64 inc] 32))
  have HY0 := Lib.hid (Blk.new_ ((w.alloc (.cells #[.slice Am nm cm, .int .i64 mo, .int .i64 mr, .int .i64 mk, .int .i64 ml] 26)).alloc (.cells #[.slice Ax nx cx, .int .i64 xo, .int .i64 xk, .int .i64 xi] 32)) 32 #[.slice A n c, .int .i64 off, .int .i64 k, .int .i64 inc] (w.heap.size + 1 + 1) (by simp))
  have HB0 := Lib.hid ((((Below.refl w.heap.size w).alloc (Nat.le_refl _) (.cells #[.slice Am nm cm, .int .i64 mo, .int .i64 mr, .int .i64 mk, .int .i64 ml] 26)).alloc (by simp) (.cells #[.slice Ax nx cx, .int .i64 xo, .int .i64 xk, .int .i64 xi] 32)).alloc (by simp; omega) (.cells #[.slice A n c, .int .i64 off, .int .i64 k, .int .i64 inc] 32))
  obtain ⟨m0, m1, m2, m3, m4⟩ := cells5 HM0.out
  obtain ⟨x0, x1, x2, x3⟩ := cells4w HX0.out
  obtain ⟨y0, y1, y2, y3⟩ := cells4w HY0.out
  go_wp2_with fail
  refine (HFt.out _ HB0.out).mono ?_
  rintro e w1 ⟨rfl, hb⟩
  have HB1 := Lib.hid (below_nx HB0.out hb)
  clear hb m0 m1 m2 m3 m4 x0 x1 x2 x3 y0 y1 y2 y3
  go_wp2_with fail
  go_ret
  exact ⟨rfl, HB1.out⟩

set_option maxRecDepth 100000 in
set_option maxHeartbeats 2000000 in
theorem gvmul_ok (a b : Nat) (g c n : Nat) (l : List Nat) (o K i : Nat) (gm cm nm : Nat) (lm : List Nat) (om C L : Nat) (gx cx nx : Nat) (lx : List Nat) (ox ix : Nat) (w : World)
    (hO : Own w g l) (hl : l.length = n) (hn : n < 1048576) (hi1 : 1 ≤ i) (hr : K = 0 ∨ o + (K - 1) * i < n)
    (hM : Own w gm lm) (hlm : lm.length = nm) (hnm : nm < 1048576) (hL1 : 1 ≤ L) (hKL : K ≤ L) (hmr : K = 0 ∨ C = 0 ∨ om + (C - 1) * L + (K - 1) < nm) (hWm : Wds lm)
    (hX : Own w gx lx) (hlx : lx.length = nx) (hnx : nx < 1048576) (hix : 1 ≤ ix) (hxr : C = 0 ∨ ox + (C - 1) * ix < nx) (hWx : Wds lx) (hom : I64 om) (hLI : I64 L) (hox : I64 ox) (hixI : I64 ix) (hKb : K < 1048576) (hCb : C < 1048576)
    (hdm : gm = g → ∀ a, a < K → ∀ b, b < C → ∀ q, q < K → om + b * L + a ≠ o + q * i) (hdx : gx = g → ∀ b, b < C → ∀ q, q < K → ox + b * ix ≠ o + q * i)
    (hFit : ∀ W, Below w.heap.size w W → Calls Try.prog 45 #[mat (some ⟨gm, 0, none⟩) nm cm om K C L, vec (some ⟨gx, 0, none⟩) nx cx ox C ix, vec (some ⟨g, 0, none⟩) n c o K i, .int .i64 (C : Int), .int .i64 (K : Int)] W fun e w' => e = .returned (.int .i64 0) ∧ Below W.heap.size W w') :
    Calls Try.prog 11 #[.float .f64 a, mat (some ⟨gm, 0, none⟩) nm cm om K C L, vec (some ⟨gx, 0, none⟩) nx cx ox C ix, .float .f64 b, vec (some ⟨g, 0, none⟩) n c o K i] w fun e w' => e = .returned (.int .i64 0) ∧
      ∃ m : List Nat, m.length = K ∧ (∀ q, q < K → MulQ a b l o i lm om C L lx ox ix q (m.getD q 0)) ∧ Own w' g (wrt l o i m K) ∧ Chg [g] w w' := by
  have hRn : ∀ q, q < K → o + q * i < n := fun q hq => by
    rcases hr with h0 | h0
    · omega
    · exact place_lt h0 hq
  have HFt := Lib.hid hFit
  have HBg := Lib.hid (fun W (hb : Below w.heap.size w W) => gvbegin_any b g c l n o K i (fun W => (MCells W gm lm om K C L ∧ VCells W gx lx ox C ix)) W (hO.nxt hb) hl hn hi1 hr ⟨(mcells_own hM hlm hmr).nxt hb, (vcells_own hX hlx hxr).nxt hb⟩ (fun W W' h hb' => ⟨h.1.nxt hb', h.2.nxt hb'⟩) (fun W q v hq hv h => ⟨h.1.set_ (fun e a ha b hb => hdm e a ha b hb q hq) _, h.2.set_ (fun e b hb => hdx e b hb q hq) _⟩))
  have HCo := Lib.hid (fun W (l1 : List Nat) (pa : Nat) (hp : pa ≠ g) (hl1 : l1.length = n) (h1 : Own W g l1) (hI : (MCells W gm lm om K C L ∧ VCells W gx lx ox C ix)) (hA : W.cell? ⟨pa, 0, none⟩ = some (.float .f64 a)) =>
    gvcols_any 52 #[.pointer (some ⟨pa, 0, none⟩)] (fun W => W.cell? ⟨pa, 0, none⟩ = some (.float .f64 a)) (MulR a) g c n l1 o K i gm cm nm lm om C L gx cx nx lx ox ix W (fun args W => gvmul_enters args W) h1 hl1 hn hi1 hr
      hI.1 hnm hL1 hKL hmr hI.2 hnx hxr hom hLI hKb hCb hdm hdx hA (fun W W' h hb => cell_below h hb) (fun W q v hq h => (cell_set hp _).trans h)
      (fun W x f hx hf h => gvmul_one a (lm.getD (om + f * L + x) 0) (lx.getD (ox + f * ix) 0) pa W h))
  have Hw := Lib.hid (And.intro hi1 (show K = 0 ∨ o + (K - 1) * i < l.length by rw [hl]; exact hr))
  have Hl := Lib.hid hl
  have Hg := Lib.hid (show g < w.heap.size from hO.lt)
  clear hO hl hn hi1 hr hM hlm hnm hL1 hKL hmr hWm hX hlx hnx hix hxr hWx hom hLI hox hixI hdm hdx hFit hRn hKb hCb
  unfold mat vec at *
  go_enter Try.func11, Try.ntmps11
  have HA0 := Lib.hid ((((Blk.new_ w 28 #[.float .f64 a] (w.heap.size) (by simp)).alloc (.cells #[.slice (some ⟨gm, 0, none⟩) nm cm, .int .i64 om, .int .i64 K, .int .i64 C, .int .i64 L] 26)).alloc (.cells #[.slice (some ⟨gx, 0, none⟩) nx cx, .int .i64 ox, .int .i64 C, .int .i64 ix] 32)).alloc (.cells #[.slice (some ⟨g, 0, none⟩) n c, .int .i64 o, .int .i64 K, .int .i64 i] 32))
  have HM0 := Lib.hid (((Blk.new_ (w.alloc (.cells #[.float .f64 a] 28)) 26 #[.slice (some ⟨gm, 0, none⟩) nm cm, .int .i64 om, .int .i64 K, .int .i64 C, .int .i64 L] (w.heap.size + 1) (by simp)).alloc (.cells #[.slice (some ⟨gx, 0, none⟩) nx cx, .int .i64 ox, .int .i64 C, .int .i64 ix] 32)).alloc (.cells #[.slice (some ⟨g, 0, none⟩) n c, .int .i64 o, .int .i64 K, .int .i64 i] 32))
  have HX0 := Lib.hid ((Blk.new_ ((w.alloc (.cells #[.float .f64 a] 28)).alloc (.cells #[.slice (some ⟨gm, 0, none⟩) nm cm, .int .i64 om, .int .i64 K, .int .i64 C, .int .i64 L] 26)) 32 #[.slice (some ⟨gx, 0, none⟩) nx cx, .int .i64 ox, .int .i64 C, .int .i64 ix] (w.heap.size + 1 + 1) (by simp)).alloc (.cells #[.slice (some ⟨g, 0, none⟩) n c, .int .i64 o, .int .i64 K, .int .i64 i] 32))
  have HY0 := Lib.hid (Blk.new_ (((w.alloc (.cells #[.float .f64 a] 28)).alloc (.cells #[.slice (some ⟨gm, 0, none⟩) nm cm, .int .i64 om, .int .i64 K, .int .i64 C, .int .i64 L] 26)).alloc (.cells #[.slice (some ⟨gx, 0, none⟩) nx cx, .int .i64 ox, .int .i64 C, .int .i64 ix] 32)) 32 #[.slice (some ⟨g, 0, none⟩) n c, .int .i64 o, .int .i64 K, .int .i64 i] (w.heap.size + 1 + 1 + 1) (by simp))
  have HB0 := Lib.hid (((((Below.refl w.heap.size w).alloc (Nat.le_refl _) (.cells #[.float .f64 a] 28)).alloc (by simp) (.cells #[.slice (some ⟨gm, 0, none⟩) nm cm, .int .i64 om, .int .i64 K, .int .i64 C, .int .i64 L] 26)).alloc (by simp; omega) (.cells #[.slice (some ⟨gx, 0, none⟩) nx cx, .int .i64 ox, .int .i64 C, .int .i64 ix] 32)).alloc (by simp; omega) (.cells #[.slice (some ⟨g, 0, none⟩) n c, .int .i64 o, .int .i64 K, .int .i64 i] 32))
  obtain ⟨m0, m1, m2, m3, m4⟩ := cells5 HM0.out
  obtain ⟨x0, x1, x2, x3⟩ := cells4w HX0.out
  obtain ⟨y0, y1, y2, y3⟩ := cells4w HY0.out
  go_wp2_with fail
  refine (HFt.out _ HB0.out).mono ?_
  rintro e w1 ⟨rfl, hb⟩
  have HB1 := Lib.hid (below_nx HB0.out hb)
  have HM1 := Lib.hid (HM0.out.nxt hb)
  have HX1 := Lib.hid (HX0.out.nxt hb)
  have HY1 := Lib.hid (HY0.out.nxt hb)
  have HA1 := Lib.hid (HA0.out.nxt hb)
  clear hb m0 m1 m2 m3 m4 x0 x1 x2 x3 y0 y1 y2 y3
  obtain ⟨m0, m1, m2, m3, m4⟩ := cells5 HM1.out
  obtain ⟨x0, x1, x2, x3⟩ := cells4w HX1.out
  obtain ⟨y0, y1, y2, y3⟩ := cells4w HY1.out
  go_wp2_with fail
  refine (HBg.out _ HB1.out).mono ?_
  rintro e w2 ⟨rfl, m, hm1, hm2, hm3, hm4, hm5⟩
  have HN := Lib.hid (And.intro hm1 (And.intro hm2 (And.intro hm3 (And.intro hm4 hm5))))
  have hng : ∀ p, w.heap.size ≤ p → p ∉ [g] := fun p hp => by simp; have := Hg.out; omega
  have HM2 := Lib.hid (hm5.blk (hng _ (by omega)) HM1.out)
  have HX2 := Lib.hid (hm5.blk (hng _ (by omega)) HX1.out)
  have HY2 := Lib.hid (hm5.blk (hng _ (by omega)) HY1.out)
  have HA2 := Lib.hid (hm5.blk (hng _ (by omega)) HA1.out)
  clear hm1 hm2 hm3 hm4 hm5 hng m0 m1 m2 m3 m4 x0 x1 x2 x3 y0 y1 y2 y3
  obtain ⟨m0, m1, m2, m3, m4⟩ := cells5 HM2.out
  obtain ⟨x0, x1, x2, x3⟩ := cells4w HX2.out
  obtain ⟨y0, y1, y2, y3⟩ := cells4w HY2.out
  go_wp2_with fail
  refine (HCo.out _ _ _ (by have := Hg.out; omega) (by rw [wrt_length, Hl.out]) HN.out.2.2.1 HN.out.2.2.2.1 (HA2.out.cell 0)).mono ?_
  rintro e w3 ⟨rfl, m', hp1, hp2, hp3, hp5⟩
  have HQ := Lib.hid (And.intro hp1 (And.intro hp2 (And.intro hp3 hp5)))
  clear hp1 hp2 hp3 hp5 m0 m1 m2 m3 m4 x0 x1 x2 x3 y0 y1 y2 y3
  go_wp2_with fail
  go_ret
  obtain ⟨k1, k2, k3, k4⟩ := HQ.out
  obtain ⟨n1, n2, n3, n4, n5⟩ := HN.out
  rw [wrt_wrt l o i m m' K Hw.out.1 Hw.out.2] at k3
  refine ⟨rfl, m', k1, fun q hq => ⟨m.getD q 0, n2 q hq, ?_⟩, k3, ((Chg.of_below HB1.out).trans n5).trans k4⟩
  have := k2 q hq
  rw [wrt_at l o i m K Hw.out.1 Hw.out.2 hq] at this
  exact this

set_option maxRecDepth 100000 in
set_option maxHeartbeats 2000000 in
theorem gvabs_ok (g c n : Nat) (l : List Nat) (o K i : Nat) (gm cm nm : Nat) (lm : List Nat) (om C L : Nat) (gx cx nx : Nat) (lx : List Nat) (ox ix : Nat) (w : World)
    (hO : Own w g l) (hl : l.length = n) (hn : n < 1048576) (hi1 : 1 ≤ i) (hr : K = 0 ∨ o + (K - 1) * i < n)
    (hM : Own w gm lm) (hlm : lm.length = nm) (hnm : nm < 1048576) (hL1 : 1 ≤ L) (hKL : K ≤ L) (hmr : K = 0 ∨ C = 0 ∨ om + (C - 1) * L + (K - 1) < nm) (hWm : Wds lm)
    (hX : Own w gx lx) (hlx : lx.length = nx) (hnx : nx < 1048576) (hix : 1 ≤ ix) (hxr : C = 0 ∨ ox + (C - 1) * ix < nx) (hWx : Wds lx) (hom : I64 om) (hLI : I64 L) (hox : I64 ox) (hixI : I64 ix) (hKb : K < 1048576) (hCb : C < 1048576)
    (hdm : gm = g → ∀ a, a < K → ∀ b, b < C → ∀ q, q < K → om + b * L + a ≠ o + q * i) (hdx : gx = g → ∀ b, b < C → ∀ q, q < K → ox + b * ix ≠ o + q * i)
    (hFit : ∀ W, Below w.heap.size w W → Calls Try.prog 45 #[mat (some ⟨gm, 0, none⟩) nm cm om K C L, vec (some ⟨gx, 0, none⟩) nx cx ox C ix, vec (some ⟨g, 0, none⟩) n c o K i, .int .i64 (C : Int), .int .i64 (K : Int)] W fun e w' => e = .returned (.int .i64 0) ∧ Below W.heap.size W w') :
    Calls Try.prog 42 #[mat (some ⟨gm, 0, none⟩) nm cm om K C L, vec (some ⟨gx, 0, none⟩) nx cx ox C ix, vec (some ⟨g, 0, none⟩) n c o K i] w fun e w' => e = .returned (.int .i64 0) ∧
      ∃ m : List Nat, m.length = K ∧ (∀ q, q < K → AbsQ l o i lm om C L lx ox ix q (m.getD q 0)) ∧ Own w' g (wrt l o i m K) ∧ Chg [g] w w' := by
  have hRn : ∀ q, q < K → o + q * i < n := fun q hq => by
    rcases hr with h0 | h0
    · omega
    · exact place_lt h0 hq
  have HFt := Lib.hid hFit
  have HCo := Lib.hid (fun W (hb : Below w.heap.size w W) =>
    gvcols_any 78 #[] (fun _ => True) AbsR g c n l o K i gm cm nm lm om C L gx cx nx lx ox ix W (fun args W => gvabs_enters args W) (hO.nxt hb) hl hn hi1 hr
      ((mcells_own hM hlm hmr).nxt hb) hnm hL1 hKL hmr ((vcells_own hX hlx hxr).nxt hb) hnx hxr hom hLI hKb hCb hdm hdx trivial (fun W W' h hb => trivial) (fun W q v hq h => trivial)
      (fun W x f hx hf h => gvabs_one (lm.getD (om + f * L + x) 0) (lx.getD (ox + f * ix) 0) W (getD_wds hWm _) (getD_wds hWx _)))
  have Hw := Lib.hid (And.intro hi1 (show K = 0 ∨ o + (K - 1) * i < l.length by rw [hl]; exact hr))
  have Hl := Lib.hid hl
  have Hg := Lib.hid (show g < w.heap.size from hO.lt)
  clear hO hl hn hi1 hr hM hlm hnm hL1 hKL hmr hWm hX hlx hnx hix hxr hWx hom hLI hox hixI hdm hdx hFit hRn hKb hCb
  unfold mat vec at *
  go_enter Try.func42, Try.ntmps42
  have HM0 := Lib.hid (((Blk.new_ w 26 #[.slice (some ⟨gm, 0, none⟩) nm cm, .int .i64 om, .int .i64 K, .int .i64 C, .int .i64 L] (w.heap.size) (by simp)).alloc (.cells #[.slice (some ⟨gx, 0, none⟩) nx cx, .int .i64 ox, .int .i64 C, .int .i64 ix] 32)).alloc (.cells #[.slice (some ⟨g, 0, none⟩) n c, .int .i64 o, .int .i64 K, .int .i64 i] 32))
  have HX0 := Lib.hid ((Blk.new_ (w.alloc (.cells #[.slice (some ⟨gm, 0, none⟩) nm cm, .int .i64 om, .int .i64 K, .int .i64 C, .int .i64 L] 26)) 32 #[.slice (some ⟨gx, 0, none⟩) nx cx, .int .i64 ox, .int .i64 C, .int .i64 ix] (w.heap.size + 1) (by simp)).alloc (.cells #[.slice (some ⟨g, 0, none⟩) n c, .int .i64 o, .int .i64 K, .int .i64 i] 32))
  have HY0 := Lib.hid (Blk.new_ ((w.alloc (.cells #[.slice (some ⟨gm, 0, none⟩) nm cm, .int .i64 om, .int .i64 K, .int .i64 C, .int .i64 L] 26)).alloc (.cells #[.slice (some ⟨gx, 0, none⟩) nx cx, .int .i64 ox, .int .i64 C, .int .i64 ix] 32)) 32 #[.slice (some ⟨g, 0, none⟩) n c, .int .i64 o, .int .i64 K, .int .i64 i] (w.heap.size + 1 + 1) (by simp))
  have HB0 := Lib.hid ((((Below.refl w.heap.size w).alloc (Nat.le_refl _) (.cells #[.slice (some ⟨gm, 0, none⟩) nm cm, .int .i64 om, .int .i64 K, .int .i64 C, .int .i64 L] 26)).alloc (by simp) (.cells #[.slice (some ⟨gx, 0, none⟩) nx cx, .int .i64 ox, .int .i64 C, .int .i64 ix] 32)).alloc (by simp; omega) (.cells #[.slice (some ⟨g, 0, none⟩) n c, .int .i64 o, .int .i64 K, .int .i64 i] 32))
  obtain ⟨m0, m1, m2, m3, m4⟩ := cells5 HM0.out
  obtain ⟨x0, x1, x2, x3⟩ := cells4w HX0.out
  obtain ⟨y0, y1, y2, y3⟩ := cells4w HY0.out
  go_wp2_with fail
  refine (HFt.out _ HB0.out).mono ?_
  rintro e w1 ⟨rfl, hb⟩
  have HB1 := Lib.hid (below_nx HB0.out hb)
  have HM1 := Lib.hid (HM0.out.nxt hb)
  have HX1 := Lib.hid (HX0.out.nxt hb)
  have HY1 := Lib.hid (HY0.out.nxt hb)

  clear hb m0 m1 m2 m3 m4 x0 x1 x2 x3 y0 y1 y2 y3
  obtain ⟨m0, m1, m2, m3, m4⟩ := cells5 HM1.out
  obtain ⟨x0, x1, x2, x3⟩ := cells4w HX1.out
  obtain ⟨y0, y1, y2, y3⟩ := cells4w HY1.out
  go_wp2_with fail
  refine (HCo.out _ HB1.out).mono ?_
  rintro e w2 ⟨rfl, m, hm1, hm2, hm3, hm4⟩
  have HN := Lib.hid (And.intro hm1 (And.intro hm2 (And.intro hm3 hm4)))
  clear hm1 hm2 hm3 hm4 m0 m1 m2 m3 m4 x0 x1 x2 x3 y0 y1 y2 y3
  go_wp2_with fail
  go_ret
  exact ⟨rfl, m, HN.out.1, HN.out.2.1, HN.out.2.2.1, (Chg.of_below HB1.out).trans HN.out.2.2.2⟩
end Go.Proofs.Ytlhdcajamempoaa
