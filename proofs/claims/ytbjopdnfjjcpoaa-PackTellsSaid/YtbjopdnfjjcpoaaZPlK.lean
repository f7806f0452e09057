/-
Pack: a matrix' panel. Conditions: the matrix is right, of at most 64 rows and columns, the step from 1 to 64.
-/
import Derived.Test.YtbjopdnfjjcpoaaZPlJ
import Derived.Test.YtbjopdnfjjcpoaaZCl
import Derived.Test.YtbjopdnfjjcpoaaZMvN
set_option linter.unusedVariables false
set_option linter.unusedSimpArgs false
set_option linter.unnecessarySimpa false
namespace Go.Proofs.Ytbjopdnfjjcpoaa
open Go.RowKit
attribute [local go_sem ↓] Go.wp_at_zero Go.wp_at_succ

theorem run_max_natp (P : Program) (ts : Array TypeId) (t : TypeId) (x y : Nat) (w : World) : (Builtin.max_ ts t #[.int .i64 (x : Int), .int .i64 (y : Int)]).run P w = .ok (.int .i64 ((max x y : Nat) : Int)) w := run_max_nat P ts t x y w
attribute [local go_sem ↓] run_max_natp
/-- The first k numbers of the panel. -/
def pkl (l : List Nat) (o R C L F2 k : Nat) : List Nat := (List.range k).map fun q => atN l o R C L (q / F2) (q % F2)
theorem pkl_length (l : List Nat) (o R C L F2 k : Nat) : (pkl l o R C L F2 k).length = k := by simp [pkl]
theorem pkl_next (l : List Nat) (o R C L : Nat) {F2 i j : Nat} (hj : j < F2) : pkl l o R C L F2 (i * F2 + j + 1) = pkl l o R C L F2 (i * F2 + j) ++ [atN l o R C L i j] := by
  have e1 : (i * F2 + j) / F2 = i := by rw [Nat.add_comm, Nat.add_mul_div_right _ _ (by omega), Nat.div_eq_of_lt hj]; simp
  have e2 : (i * F2 + j) % F2 = j := by rw [Nat.add_comm, Nat.add_mul_mod_self_right, Nat.mod_eq_of_lt hj]
  unfold pkl
  rw [List.range_succ, List.map_append, List.map_singleton, e1, e2]
theorem pkl_get (l : List Nat) (o R C L : Nat) {F2 k i j : Nat} (hj : j < F2) (h : i * F2 + j < k) : (pkl l o R C L F2 k).getD (i * F2 + j) 0 = atN l o R C L i j := by
  have e1 : (i * F2 + j) / F2 = i := by rw [Nat.add_comm, Nat.add_mul_div_right _ _ (by omega), Nat.div_eq_of_lt hj]; simp
  have e2 : (i * F2 + j) % F2 = j := by rw [Nat.add_comm, Nat.add_mul_mod_self_right, Nat.mod_eq_of_lt hj]
  rw [List.getD_eq_getElem?_getD, List.getElem?_eq_getElem (by rw [pkl_length]; exact h)]
  simp [pkl, e1, e2]
/-- The panel's box that is being made: made, or filled. -/
def PkN (cs : Array Value) (wr : World) (d9 d10 : Bool) (v : Value) (W : World) : Prop :=
  Below wr.heap.size wr W ∧ (d9 = true → ∃ p, v = .pointer (some ⟨p, 0, none⟩) ∧ wr.heap.size ≤ p ∧ Blk W p 28 (if d10 then cs else #[.int .i64 0, .int .i64 0, .slice none 0 0]))
theorem PkN.made {cs : Array Value} {wr W : World} {v : Value} (h : PkN cs wr false false v W) : PkN cs wr true false (.pointer (some ⟨W.heap.size, 0, none⟩)) (W.alloc (.cells #[.int .i64 0, .int .i64 0, .slice none 0 0] 28)) :=
  ⟨below_nx h.1 below_one, fun _ => ⟨W.heap.size, rfl, h.1.size, Blk.new W 28 #[.int .i64 0, .int .i64 0, .slice none 0 0]⟩⟩
theorem owns_set {W : World} {lo p i n sz : Nat} {t : TypeId} {v u : Value} {xs : List Value} (h : W.ownsRow lo t sz v n xs) (hp : p < lo) : (W.setCell ⟨p, i, none⟩ u).ownsRow lo t sz v n xs := by
  refine ⟨h.1, h.2.imp id ?_⟩
  rintro ⟨g, cap, cur, h1, h2, h3, h4⟩
  exact ⟨g, cap, cur, h1, h2, (Below.heap_setCell W ⟨p, i, none⟩ u g (by show g ≠ p; omega)).trans h3, h4⟩
/-- A number is appended to the list of the panel in box p. -/
def ApK (p : Nat) (F1 F2 : Value) (L : List Nat) (x : Nat) (v : Value) (wA wr : World) (d6 d7 d9 : Bool) (vb va : Value) (W : World) : Prop :=
  (d7 = false → Below wr.heap.size wr W ∧ (d6 = true → ∃ g, vb = .slice (some ⟨g, 0, none⟩) 1 1 ∧ Blk W g 39 #[.float .f64 x])) ∧
  (d7 = true → (W.ownsRow (p + 1) 39 1 va (L.length + 1) (f64s (L ++ [x])) ∧ va ≠ .slice none 0 0) ∧ Below p wA W ∧ Blk W p 28 #[F1, F2, if d9 then va else v])
section
variable {p : Nat} {F1 F2 : Value} {L : List Nat} {x : Nat} {v vb va : Value} {wA wr W W' : World} {d6 d9 : Bool}
theorem ApK.nxt (h : ApK p F1 F2 L x v wA wr d6 false d9 vb va W) (hb : Below W.heap.size W W') : ApK p F1 F2 L x v wA wr d6 false d9 vb va W' :=
  ⟨fun _ => ⟨below_nx (h.1 rfl).1 hb, fun e => by
    obtain ⟨g, h1, h2⟩ := (h.1 rfl).2 e
    exact ⟨g, h1, h2.nxt hb⟩⟩, fun e => by cases e⟩
theorem ApK.made (h : ApK p F1 F2 L x v wA wr false false d9 vb va W) : ApK p F1 F2 L x v wA wr true false d9 (.slice (some ⟨W.heap.size, 0, none⟩) 1 1) va (W.alloc (.cells #[.float .f64 x] 39)) :=
  ⟨fun _ => ⟨below_nx (h.1 rfl).1 below_one, fun _ => ⟨_, rfl, Blk.new W 39 #[.float .f64 x]⟩⟩, fun e => by cases e⟩
theorem ApK.app (h : ApK p F1 F2 L x v wA wr true false false vb va W) (hout : wr.ownsRow (p + 1) 39 1 v L.length (f64s L)) (hv : v ≠ .slice none 0 0) (hbl : Below p wA wr) (hB : Blk wr p 28 #[F1, F2, v]) (hq : L.length ≤ 100000) :
    ∃ g v' w', vb = .slice (some ⟨g, 0, none⟩) 1 1 ∧ (Builtin.append_ #[22, 22] 22 #[v, .slice (some ⟨g, 0, none⟩) 1 1]).run Try.prog W = .ok v' w' ∧ ApK p F1 F2 L x v wA wr true true false vb v' w' := by
  obtain ⟨i0, hi, hz0, hz1, hz2⟩ := fi0
  obtain ⟨hb, hx⟩ := h.1 rfl
  obtain ⟨g, e1, e2⟩ := hx rfl
  have hpl := hB.lt
  have hO : W.ownsRow (p + 1) 39 1 v L.length (f64s L) := hout.kept (row := none) ⟨hb.os, hb.tape, hb.output, hb.size, fun k hk _ => hb.block k hk⟩ (by cases v.ownBlock <;> simp)
  obtain ⟨v', w', r1, r2, r3, r4⟩ := run_append_own W (p + 1) 22 22 39 i0 (.float .f64 0) 1 8 Try.underlying22 hi hz0 hz1 hz2 rfl (by decide) v L.length (f64s L) hO ⟨g, 0, none⟩ 1 1 [.float .f64 x] rfl
    (by
      intro j u hj
      match j, hj with
      | 0, hj =>
        have : u = .float .f64 x := by simpa using hj.symm
        subst this
        exact e2.cell 0
      | j + 1, hj => simp at hj) (by intro u hu; simp at hu; subst hu; rfl) (by unfold maxLen; omega) (by omega) (by have := hb.size; omega)
  refine ⟨g, v', w', e1, r1, ⟨(fun e => by cases e), fun _ => ⟨⟨by rw [f64s_snoc]; exact r2, fun e => hv (r4.1 e).1⟩, ?_, ?_⟩⟩⟩
  · exact (hbl.trans (hb.mono (by omega))).grown r3 (by have := hb.size; omega) (fun k hk => by have := (hO.lt k hk).1; omega)
  · exact (r3.block p (by have := hb.size; omega) (fun e => by have := (hO.lt p e.symm).1; omega)).trans (hB.nxt hb)
theorem ApK.stored (h : ApK p F1 F2 L x v wA wr d6 true false vb va W) : ApK p F1 F2 L x v wA wr d6 true true vb va (W.setCell ⟨p, 2, none⟩ va) := by
  obtain ⟨⟨h1, h1'⟩, h2, h3⟩ := h.2 rfl
  refine ⟨(fun e => by cases e), fun _ => ⟨⟨owns_set h1 (by omega), h1'⟩, h2.setCell (p := ⟨p, 2, none⟩) (Nat.le_refl _) va, ?_⟩⟩
  have := h3.set_ 2 va
  simpa using this
end
/-- k numbers of the panel have been laid. -/
def PkI (p : Nat) (F1 F2 : Value) (L : List Nat) (wA W : World) : Prop := ∃ v, Blk W p 28 #[F1, F2, v] ∧ W.ownsRow (p + 1) 39 1 v L.length (f64s L) ∧ v ≠ .slice none 0 0 ∧ Below p wA W
/-- The call returned the panel. -/
def PkO (F1 F2 N : Nat) (D : List Nat) (w : World) (e : Ending) (w' : World) : Prop :=
  ∃ g cap, e = .returned (.tuple #[.agg #[.int .i64 (F1 : Int), .int .i64 (F2 : Int), .slice (some ⟨g, 0, none⟩) N cap], .int .i64 0]) ∧ Own w' g D ∧ w.heap.size ≤ g ∧ g < w'.heap.size ∧ Below w.heap.size w w'

set_option maxRecDepth 100000 in
set_option maxHeartbeats 4000000 in
theorem pack_ok (A : Option Addr) (n c : Nat) (l : List Nat) (o R C L s0 : Nat) (w : World) (hA : Row w A (f64s l)) (hl : l.length = n) (hn : n < 1048576) (hLI : I64 L) (hRb : R ≤ 64) (hCb : C ≤ 64) (hob : o < 9223372036854775808) (hL1 : 1 ≤ L) (hRL : R ≤ L) (hmr : R = 0 ∨ C = 0 ∨ o + (C - 1) * L + (R - 1) < n) (hs1 : 1 ≤ s0) (hs2 : s0 ≤ 64) :
    Calls Try.prog 8 #[mat A n c o R C L, .int .i64 (s0 : Int)] w (PkO (fillN R s0) (fillN C s0) (fillN R s0 * fillN C s0) (pkl l o R C L (fillN C s0) (fillN R s0 * fillN C s0)) w) := by
  obtain ⟨i0, hi, hz0, hz1, hz2⟩ := fi0
  have HG := Lib.hid (fun W => good_any A n c o R C L W (by omega) (by unfold I64; omega) (by unfold I64; omega) (by unfold I64; omega) hLI)
  rw [mat_right hL1 hRL hmr] at HG
  have HF1 := Lib.hid (fun W => fill_any R s0 W hRb hs1 hs2)
  have HF2 := Lib.hid (fun W => fill_any C s0 W hCb hs1 hs2)
  have hb1 := (fillN_le (n := R) hs1).2
  have hb2 := (fillN_le (n := C) hs1).2
  obtain ⟨F1, hF1⟩ : ∃ F1, fillN R s0 = F1 := ⟨_, rfl⟩
  obtain ⟨F2, hF2⟩ : ∃ F2, fillN C s0 = F2 := ⟨_, rfl⟩
  rw [hF1] at HF1 hb1 ⊢
  rw [hF2] at HF2 hb2 ⊢
  have hFb : F1 ≤ 128 ∧ F2 ≤ 128 := by omega
  have HFb := Lib.hid hFb
  obtain ⟨N, hN⟩ : ∃ N, F1 * F2 = N := ⟨_, rfl⟩
  have hNb : N ≤ 16384 := by rw [← hN]; exact Nat.mul_le_mul hFb.1 hFb.2
  have HNb := Lib.hid hNb
  have HN := Lib.hid hN
  have hmul := fl_w (z := (F1 : Int) * (F2 : Int)) (M := N) (by rw [← hN]; simp) (by omega)
  have HMul := Lib.hid hmul
  rw [hN]
  have HAt0 := Lib.hid (fun W (i j : Nat) (h : Row W A (f64s l)) => vat_any A c n l o R C L i j W h hl hn hLI (by omega) (by omega) hob hL1 hRL hmr)
  have HA := Lib.hid hA
  have hx1 : ¬ (64 : Int) < ((max R C : Nat) : Int) := by omega
  have hx2 : ¬ (s0 : Int) < 1 := by omega
  have hx3 : ¬ (64 : Int) < (s0 : Int) := by omega
  clear hA hl hn hLI hRb hCb hob hL1 hRL hmr hs1 hs2 hb1 hb2 hF1 hF2 hFb hN hNb hmul
  unfold mat at *
  go_enter Try.func8, Try.ntmps8
  have Hm0 := Lib.hid ((Blk.new w 24 #[.slice A n c, .int .i64 (o : Int), .int .i64 (R : Int), .int .i64 (C : Int), .int .i64 (L : Int)]).alloc (.cells #[.int .i64 0, .int .i64 0, .slice none 0 0] 28))
  have Hr0 := Lib.hid (Blk.new_ (w.alloc (.cells #[.slice A n c, .int .i64 (o : Int), .int .i64 (R : Int), .int .i64 (C : Int), .int .i64 (L : Int)] 24)) 28 #[.int .i64 0, .int .i64 0, .slice none 0 0] (w.heap.size + 1) (by simp))
  have HB0 := Lib.hid (((Below.refl w.heap.size w).alloc (Nat.le_refl _) (.cells #[.slice A n c, .int .i64 (o : Int), .int .i64 (R : Int), .int .i64 (C : Int), .int .i64 (L : Int)] 24)).alloc (by simp) (.cells #[.int .i64 0, .int .i64 0, .slice none 0 0] 28))
  have HA0 := Lib.hid (HA.out.below HB0.out)
  obtain ⟨c0, c1, c2, c3, c4⟩ := cells5 Hm0.out
  go_wp2_with fail
  refine (HG.out _).mono ?_
  rintro e w1 ⟨rfl, hb⟩
  have Hm1 := Lib.hid (Hm0.out.nxt hb)
  have Hr1 := Lib.hid (Hr0.out.nxt hb)
  have HB1 := Lib.hid (below_nx HB0.out hb)
  have HA1 := Lib.hid (HA0.out.below hb)
  clear hb c0 c1 c2 c3 c4
  obtain ⟨c0, c1, c2, c3, c4⟩ := cells5 Hm1.out
  go_wp2_with fail
  clear c0 c1 c2 c3 c4 hx1 hx2 hx3
  refine wp_region_inv [30, 31, 32, 33, 34, 35, 36, 37, 38, 6] (fun d s W => (d 0 = true → s 30 = .pointer (some ⟨w.heap.size, 2, none⟩)) ∧ (d 1 = true → s 31 = .int .i64 (R : Int)) ∧ (d 2 = true → s 32 = .int .i64 (s0 : Int)) ∧ (d 3 = true → s 33 = .int .i64 (F1 : Int)) ∧ (d 4 = true → s 34 = .pointer (some ⟨w.heap.size, 3, none⟩)) ∧ (d 5 = true → s 35 = .int .i64 (C : Int)) ∧ (d 6 = true → s 36 = .int .i64 (s0 : Int)) ∧ (d 7 = true → s 37 = .int .i64 (F2 : Int)) ∧ (d 8 = true → s 38 = .agg #[.int .i64 (F1 : Int), .int .i64 (F2 : Int), .slice none 0 0]) ∧ (d 1 = true → d 0 = true) ∧ (d 3 = true → d 0 = true ∧ d 1 = true ∧ d 2 = true) ∧ (d 5 = true → d 4 = true) ∧ (d 7 = true → d 4 = true ∧ d 5 = true ∧ d 6 = true) ∧ (d 8 = true → d 0 = true ∧ d 1 = true ∧ d 2 = true ∧ d 3 = true ∧ d 4 = true ∧ d 5 = true ∧ d 6 = true ∧ d 7 = true) ∧ (d 10 = true → d 0 = true ∧ d 1 = true ∧ d 2 = true ∧ d 3 = true ∧ d 4 = true ∧ d 5 = true ∧ d 6 = true ∧ d 7 = true ∧ d 8 = true ∧ d 9 = true) ∧ PkN #[.int .i64 (F1 : Int), .int .i64 (F2 : Int), .slice none 0 0] w1 (d 9) (d 10) (s 6) W)
    rfl (by kernel_rfl) ?_ ?_ ?_
  · exact ⟨by simp, by simp, by simp, by simp, by simp, by simp, by simp, by simp, by simp, by simp, by simp, by simp, by simp, by simp, by simp, ⟨(Below.refl _ _).drew, fun e => by simp at e⟩⟩
  · refine ⟨?_, ?_, ?_, ?_, ?_, ?_, ?_, ?_, ?_, ?_, ?_, trivial⟩
    all_goals
      intro d s W hJ hfr hd hdep
      simp only [List.mem_cons, forall_eq_or_imp, List.not_mem_nil, false_implies, implies_true, and_true, Region.binds] at hdep
      have f1 := hfr 1 (by decide)
      have f2 := hfr 2 (by decide)
      simp at f1 f2 hdep
      obtain ⟨h0, h1, h2, h3, h4, h5, h6, h7, h8, x0, x1, x2, x3, x4, x5, hT⟩ := hJ
    · have hl : d 10 = false := by
        cases h : d 10
        · rfl
        · have := x5 h; simp [hd] at this
      rw [hl] at hT
      unfold OpSteps
      simp [go_sem, evS, f2]
      exact ⟨fun _ => by simp [sput], fun h => by simpa [sput] using h1 (by simpa [did] using h), fun h => by simpa [sput] using h2 (by simpa [did] using h), fun h => by simpa [sput] using h3 (by simpa [did] using h), fun h => by simpa [sput] using h4 (by simpa [did] using h), fun h => by simpa [sput] using h5 (by simpa [did] using h), fun h => by simpa [sput] using h6 (by simpa [did] using h), fun h => by simpa [sput] using h7 (by simpa [did] using h), fun h => by simpa [sput] using h8 (by simpa [did] using h), fun h => by have := x0 (by simpa [did] using h); simp [did, this], fun h => by have := x1 (by simpa [did] using h); simp [did, this], fun h => by have := x2 (by simpa [did] using h); simp [did, this], fun h => by have := x3 (by simpa [did] using h); simp [did, this], fun h => by have := x4 (by simpa [did] using h); simp [did, this], fun h => by have := x5 (by simpa [did] using h); simp [did, this], by simpa [did, sput, hl] using hT⟩
    · have hl : d 10 = false := by
        cases h : d 10
        · rfl
        · have := x5 h; simp [hd] at this
      rw [hl] at hT
      have g0 := h0 (by simp [hdep])
      unfold OpSteps
      obtain ⟨p0, p1, p2, p3, p4⟩ := cells5 (Hm1.out.below hT.1 Hm1.out.lt)
      simp [go_sem, evS, g0, p0, p1, p2, p3, p4]
      exact ⟨fun h => by simpa [sput] using h0 (by simpa [did] using h), fun _ => by simp [sput], fun h => by simpa [sput] using h2 (by simpa [did] using h), fun h => by simpa [sput] using h3 (by simpa [did] using h), fun h => by simpa [sput] using h4 (by simpa [did] using h), fun h => by simpa [sput] using h5 (by simpa [did] using h), fun h => by simpa [sput] using h6 (by simpa [did] using h), fun h => by simpa [sput] using h7 (by simpa [did] using h), fun h => by simpa [sput] using h8 (by simpa [did] using h), fun _ => by simp [did, hdep], fun h => by have := x1 (by simpa [did] using h); simp [did, this], fun h => by have := x2 (by simpa [did] using h); simp [did, this], fun h => by have := x3 (by simpa [did] using h); simp [did, this], fun h => by have := x4 (by simpa [did] using h); simp [did, this], fun h => by have := x5 (by simpa [did] using h); simp [did, this], by simpa [did, sput, hl] using hT⟩
    · have hl : d 10 = false := by
        cases h : d 10
        · rfl
        · have := x5 h; simp [hd] at this
      rw [hl] at hT
      unfold OpSteps
      simp [go_sem, evS, f1]
      exact ⟨fun h => by simpa [sput] using h0 (by simpa [did] using h), fun h => by simpa [sput] using h1 (by simpa [did] using h), fun _ => by simp [sput], fun h => by simpa [sput] using h3 (by simpa [did] using h), fun h => by simpa [sput] using h4 (by simpa [did] using h), fun h => by simpa [sput] using h5 (by simpa [did] using h), fun h => by simpa [sput] using h6 (by simpa [did] using h), fun h => by simpa [sput] using h7 (by simpa [did] using h), fun h => by simpa [sput] using h8 (by simpa [did] using h), fun h => by have := x0 (by simpa [did] using h); simp [did, this], fun h => by have := x1 (by simpa [did] using h); simp [did, this], fun h => by have := x2 (by simpa [did] using h); simp [did, this], fun h => by have := x3 (by simpa [did] using h); simp [did, this], fun h => by have := x4 (by simpa [did] using h); simp [did, this], fun h => by have := x5 (by simpa [did] using h); simp [did, this], by simpa [did, sput, hl] using hT⟩
    · have hl : d 10 = false := by
        cases h : d 10
        · rfl
        · have := x5 h; simp [hd] at this
      rw [hl] at hT
      have g1 := h1 (by simp [hdep])
      have g2 := h2 (by simp [hdep])
      unfold OpSteps
      simp [go_sem, evS, g1, g2]
      refine (HF1.out W).mono ?_
      rintro e W' ⟨rfl, rfl⟩
      refine ⟨_, rfl, ?_⟩
      exact ⟨fun h => by simpa [sput] using h0 (by simpa [did] using h), fun h => by simpa [sput] using h1 (by simpa [did] using h), fun h => by simpa [sput] using h2 (by simpa [did] using h), fun _ => by simp [sput], fun h => by simpa [sput] using h4 (by simpa [did] using h), fun h => by simpa [sput] using h5 (by simpa [did] using h), fun h => by simpa [sput] using h6 (by simpa [did] using h), fun h => by simpa [sput] using h7 (by simpa [did] using h), fun h => by simpa [sput] using h8 (by simpa [did] using h), fun h => by have := x0 (by simpa [did] using h); simp [did, this], fun _ => by have y1 := x0 (by simp [hdep]); simp [did, hdep, y1], fun h => by have := x2 (by simpa [did] using h); simp [did, this], fun h => by have := x3 (by simpa [did] using h); simp [did, this], fun h => by have := x4 (by simpa [did] using h); simp [did, this], fun h => by have := x5 (by simpa [did] using h); simp [did, this], by simpa [did, sput, hl] using hT⟩
    · have hl : d 10 = false := by
        cases h : d 10
        · rfl
        · have := x5 h; simp [hd] at this
      rw [hl] at hT
      unfold OpSteps
      simp [go_sem, evS, f2]
      exact ⟨fun h => by simpa [sput] using h0 (by simpa [did] using h), fun h => by simpa [sput] using h1 (by simpa [did] using h), fun h => by simpa [sput] using h2 (by simpa [did] using h), fun h => by simpa [sput] using h3 (by simpa [did] using h), fun _ => by simp [sput], fun h => by simpa [sput] using h5 (by simpa [did] using h), fun h => by simpa [sput] using h6 (by simpa [did] using h), fun h => by simpa [sput] using h7 (by simpa [did] using h), fun h => by simpa [sput] using h8 (by simpa [did] using h), fun h => by have := x0 (by simpa [did] using h); simp [did, this], fun h => by have := x1 (by simpa [did] using h); simp [did, this], fun h => by have := x2 (by simpa [did] using h); simp [did, this], fun h => by have := x3 (by simpa [did] using h); simp [did, this], fun h => by have := x4 (by simpa [did] using h); simp [did, this], fun h => by have := x5 (by simpa [did] using h); simp [did, this], by simpa [did, sput, hl] using hT⟩
    · have hl : d 10 = false := by
        cases h : d 10
        · rfl
        · have := x5 h; simp [hd] at this
      rw [hl] at hT
      have g4 := h4 (by simp [hdep])
      unfold OpSteps
      obtain ⟨p0, p1, p2, p3, p4⟩ := cells5 (Hm1.out.below hT.1 Hm1.out.lt)
      simp [go_sem, evS, g4, p0, p1, p2, p3, p4]
      exact ⟨fun h => by simpa [sput] using h0 (by simpa [did] using h), fun h => by simpa [sput] using h1 (by simpa [did] using h), fun h => by simpa [sput] using h2 (by simpa [did] using h), fun h => by simpa [sput] using h3 (by simpa [did] using h), fun h => by simpa [sput] using h4 (by simpa [did] using h), fun _ => by simp [sput], fun h => by simpa [sput] using h6 (by simpa [did] using h), fun h => by simpa [sput] using h7 (by simpa [did] using h), fun h => by simpa [sput] using h8 (by simpa [did] using h), fun h => by have := x0 (by simpa [did] using h); simp [did, this], fun h => by have := x1 (by simpa [did] using h); simp [did, this], fun _ => by simp [did, hdep], fun h => by have := x3 (by simpa [did] using h); simp [did, this], fun h => by have := x4 (by simpa [did] using h); simp [did, this], fun h => by have := x5 (by simpa [did] using h); simp [did, this], by simpa [did, sput, hl] using hT⟩
    · have hl : d 10 = false := by
        cases h : d 10
        · rfl
        · have := x5 h; simp [hd] at this
      rw [hl] at hT
      unfold OpSteps
      simp [go_sem, evS, f1]
      exact ⟨fun h => by simpa [sput] using h0 (by simpa [did] using h), fun h => by simpa [sput] using h1 (by simpa [did] using h), fun h => by simpa [sput] using h2 (by simpa [did] using h), fun h => by simpa [sput] using h3 (by simpa [did] using h), fun h => by simpa [sput] using h4 (by simpa [did] using h), fun h => by simpa [sput] using h5 (by simpa [did] using h), fun _ => by simp [sput], fun h => by simpa [sput] using h7 (by simpa [did] using h), fun h => by simpa [sput] using h8 (by simpa [did] using h), fun h => by have := x0 (by simpa [did] using h); simp [did, this], fun h => by have := x1 (by simpa [did] using h); simp [did, this], fun h => by have := x2 (by simpa [did] using h); simp [did, this], fun h => by have := x3 (by simpa [did] using h); simp [did, this], fun h => by have := x4 (by simpa [did] using h); simp [did, this], fun h => by have := x5 (by simpa [did] using h); simp [did, this], by simpa [did, sput, hl] using hT⟩
    · have hl : d 10 = false := by
        cases h : d 10
        · rfl
        · have := x5 h; simp [hd] at this
      rw [hl] at hT
      have g5 := h5 (by simp [hdep])
      have g6 := h6 (by simp [hdep])
      unfold OpSteps
      simp [go_sem, evS, g5, g6]
      refine (HF2.out W).mono ?_
      rintro e W' ⟨rfl, rfl⟩
      refine ⟨_, rfl, ?_⟩
      exact ⟨fun h => by simpa [sput] using h0 (by simpa [did] using h), fun h => by simpa [sput] using h1 (by simpa [did] using h), fun h => by simpa [sput] using h2 (by simpa [did] using h), fun h => by simpa [sput] using h3 (by simpa [did] using h), fun h => by simpa [sput] using h4 (by simpa [did] using h), fun h => by simpa [sput] using h5 (by simpa [did] using h), fun h => by simpa [sput] using h6 (by simpa [did] using h), fun _ => by simp [sput], fun h => by simpa [sput] using h8 (by simpa [did] using h), fun h => by have := x0 (by simpa [did] using h); simp [did, this], fun h => by have := x1 (by simpa [did] using h); simp [did, this], fun h => by have := x2 (by simpa [did] using h); simp [did, this], fun _ => by have y5 := x2 (by simp [hdep]); simp [did, hdep, y5], fun h => by have := x4 (by simpa [did] using h); simp [did, this], fun h => by have := x5 (by simpa [did] using h); simp [did, this], by simpa [did, sput, hl] using hT⟩
    · have hl : d 10 = false := by
        cases h : d 10
        · rfl
        · have := x5 h; simp [hd] at this
      rw [hl] at hT
      have g3 := h3 (by simp [hdep])
      have g7 := h7 (by simp [hdep])
      unfold OpSteps
      simp [go_sem, evS, g3, g7]
      exact ⟨fun h => by simpa [sput] using h0 (by simpa [did] using h), fun h => by simpa [sput] using h1 (by simpa [did] using h), fun h => by simpa [sput] using h2 (by simpa [did] using h), fun h => by simpa [sput] using h3 (by simpa [did] using h), fun h => by simpa [sput] using h4 (by simpa [did] using h), fun h => by simpa [sput] using h5 (by simpa [did] using h), fun h => by simpa [sput] using h6 (by simpa [did] using h), fun h => by simpa [sput] using h7 (by simpa [did] using h), fun _ => by simp [sput], fun h => by have := x0 (by simpa [did] using h); simp [did, this], fun h => by have := x1 (by simpa [did] using h); simp [did, this], fun h => by have := x2 (by simpa [did] using h); simp [did, this], fun h => by have := x3 (by simpa [did] using h); simp [did, this], fun _ => by have y3 := x1 (by simp [hdep]); have y7 := x3 (by simp [hdep]); simp [did, hdep, y3, y7], fun h => by have := x5 (by simpa [did] using h); simp [did, this], by simpa [did, sput, hl] using hT⟩
    · have hl : d 10 = false := by
        cases h : d 10
        · rfl
        · have := x5 h; simp [hd] at this
      rw [hl] at hT
      unfold OpSteps
      simp [go_sem, evS]
      exact ⟨fun h => by simpa [sput] using h0 (by simpa [did] using h), fun h => by simpa [sput] using h1 (by simpa [did] using h), fun h => by simpa [sput] using h2 (by simpa [did] using h), fun h => by simpa [sput] using h3 (by simpa [did] using h), fun h => by simpa [sput] using h4 (by simpa [did] using h), fun h => by simpa [sput] using h5 (by simpa [did] using h), fun h => by simpa [sput] using h6 (by simpa [did] using h), fun h => by simpa [sput] using h7 (by simpa [did] using h), fun h => by simpa [sput] using h8 (by simpa [did] using h), fun h => by have := x0 (by simpa [did] using h); simp [did, this], fun h => by have := x1 (by simpa [did] using h); simp [did, this], fun h => by have := x2 (by simpa [did] using h); simp [did, this], fun h => by have := x3 (by simpa [did] using h); simp [did, this], fun h => by have := x4 (by simpa [did] using h); simp [did, this], fun h => by have := x5 (by simpa [did] using h); simp [did, this], by rw [hd] at hT; simpa [did, sput, hl] using hT.made⟩
    · have g8 := h8 (by simp [hdep])
      unfold OpSteps
      have hd9 : d 9 = true := by simp [hdep]
      rw [hd9, hd] at hT
      obtain ⟨hT1, hT2⟩ := hT
      obtain ⟨p, gp, hp, hB⟩ := hT2 rfl
      simp only [if_neg Bool.false_ne_true] at hB
      obtain ⟨k0, k1, k2⟩ := cells3v hB
      obtain ⟨fr0, fr1, fr2⟩ := frozen3v hB
      simp [go_sem, evS, g8, gp, k0, k1, k2, fr0, fr1, fr2]
      exact ⟨fun h => by simpa [sput] using h0 (by simpa [did] using h), fun h => by simpa [sput] using h1 (by simpa [did] using h), fun h => by simpa [sput] using h2 (by simpa [did] using h), fun h => by simpa [sput] using h3 (by simpa [did] using h), fun h => by simpa [sput] using h4 (by simpa [did] using h), fun h => by simpa [sput] using h5 (by simpa [did] using h), fun h => by simpa [sput] using h6 (by simpa [did] using h), fun h => by simpa [sput] using h7 (by simpa [did] using h), fun h => by simpa [sput] using h8 (by simpa [did] using h), fun h => by have := x0 (by simpa [did] using h); simp [did, this], fun h => by have := x1 (by simpa [did] using h); simp [did, this], fun h => by have := x2 (by simpa [did] using h); simp [did, this], fun h => by have := x3 (by simpa [did] using h); simp [did, this], fun h => by have := x4 (by simpa [did] using h); simp [did, this], fun _ => by have y8 := x4 (by simp [hdep]); simp [did, hdep, y8], ⟨below3g hT1 hp _ _ _, fun _ => ⟨p, by simp [sput, gp], hp, by simpa [did] using hB.store3v _ _ _⟩⟩⟩
  intro d s W hJ hd
  obtain ⟨h0, h1, h2, h3, h4, h5, h6, h7, h8, x0, x1, x2, x3, x4, x5, hT⟩ := hJ
  have hA := hT.2 (hd 9 (by decide))
  rw [hd 10 (by decide)] at hA
  simp only [if_true] at hA
  have HBr := Lib.hid hT.1
  clear h0 h1 h2 h3 h4 h5 h6 h7 h8 x0 x1 x2 x3 x4 x5 hT hd
  obtain ⟨p, gp, hp, hB⟩ := hA
  have HP := Lib.hid hB
  have Hp := Lib.hid hp
  simp [setAll, gp]
  clear gp hB hp
  generalize s 30 = s30
  generalize s 31 = s31
  generalize s 32 = s32
  generalize s 33 = s33
  generalize s 34 = s34
  generalize s 35 = s35
  generalize s 36 = s36
  generalize s 37 = s37
  generalize s 38 = s38
  have HB2 := Lib.hid (below_nx HB1.out HBr.out)
  have Hm2 := Lib.hid (Hm1.out.nxt HBr.out)
  have Hr2 := Lib.hid (Hr1.out.nxt HBr.out)
  have HA2 := Lib.hid (HA1.out.below HBr.out)
  have Hz := Lib.hid (show w.heap.size + 1 < p from by have := Hr1.out.lt; have := Hp.out; omega)
  clear HBr
  obtain ⟨k0, k1, k2⟩ := cells3v HP.out
  obtain ⟨hm1, hm2⟩ := HMul.out
  go_wp2_with (at_make; refine wpList_make_own _ rfl _ _ 22 rfl (p + 1) 39 i0 (.float .f64 0) 1 Try.underlying22 hi hz0 hz1 .i64 .i64 (N : Int) N rfl (by simp [Act.eval]) rfl ?m1 ?m2 ?m3 ?_)
  case m1 => rw [hz2]; have := HNb.out; omega
  case m2 => have := HNb.out; unfold maxLen; omega
  case m3 => have := HP.out.lt; omega
  intro w3 hown hgrow
  have hb3 : Below W.heap.size W w3 := ⟨hgrow.os, hgrow.tape, hgrow.output, hgrow.size, fun k hk => hgrow.block k hk (fun e => by cases e)⟩
  have HP3 := Lib.hid (HP.out.nxt hb3)
  have Hp3 := HP3.out.lt
  have HPa := Lib.hid (show PkI p (.int .i64 (F1 : Int)) (.int .i64 (F2 : Int)) [] (w3.setCell ⟨p, 2, none⟩ (.slice (some ⟨W.heap.size, 0, none⟩) 0 N)) (w3.setCell ⟨p, 2, none⟩ (.slice (some ⟨W.heap.size, 0, none⟩) 0 N)) from
    ⟨_, by simpa using HP3.out.set_ 2 (.slice (some ⟨W.heap.size, 0, none⟩) 0 N), owns_set hown (by omega), by simp, Below.refl _ _⟩)
  have HmA := Lib.hid ((Hm2.out.nxt hb3).other (p := ⟨p, 2, none⟩) (by have := Hz.out; show w.heap.size ≠ p; omega) (.slice (some ⟨W.heap.size, 0, none⟩) 0 N))
  have HrA := Lib.hid ((Hr2.out.nxt hb3).other (p := ⟨p, 2, none⟩) (by have := Hz.out; show w.heap.size + 1 ≠ p; omega) (.slice (some ⟨W.heap.size, 0, none⟩) 0 N))
  have HBA := Lib.hid ((below_nx HB2.out hb3).setCell (p := ⟨p, 2, none⟩) (by have := Hz.out; show w.heap.size ≤ p; omega) (.slice (some ⟨W.heap.size, 0, none⟩) 0 N))
  clear hown hgrow hb3 k0 k1 k2 hm1 hm2
  obtain ⟨k0, k1, k2⟩ := cells3v HP3.out
  obtain ⟨fr0, fr1, fr2⟩ := frozen3v HP3.out
  go_upto_region 7 with fail
  generalize w3.setCell ⟨p, 2, none⟩ (.slice (some ⟨W.heap.size, 0, none⟩) 0 N) = wA at *
  clear k0 k1 k2 fr0 fr1 fr2 HP3 Hp3 HB2 Hm2 Hr2 HA2 HP HB1 HA1 Hm1 Hr1
  obtain ⟨va, hBa, hoa, hva, hbla⟩ := HPa.out
  obtain ⟨k0, k1, k2⟩ := cells3v hBa
  go_wp2_with fail
  clear k0 k1 k2 hBa hoa hva hbla
  go_loopw [48] (fun a wr => ∃ i : Nat, i ≤ F1 ∧ a = .int .i64 (i : Int) ∧ PkI p (.int .i64 (F1 : Int)) (.int .i64 (F2 : Int)) (pkl l o R C L F2 (i * F2)) wA wr) (fun a _ => F1 - (intOf a).toNat)
  case atStart => exact ⟨0, Nat.zero_le _, rfl, by rw [Nat.zero_mul]; exact HPa.out⟩
  case round =>
    obtain ⟨i, hi1, rfl, hpk⟩ := hrel
    have HPk := Lib.hid hpk
    obtain ⟨v1, hB1, ho1, hv1, hbl1⟩ := hpk
    have HB1 := Lib.hid hB1
    have Hw := Lib.hid hv1
    have Ho1 := Lib.hid ho1
    have Hbl1 := Lib.hid hbl1
    obtain ⟨k0, k1, k2⟩ := cells3v hB1
    clear hB1 hv1 ho1 hbl1
    by_cases hlt : i < F1
    · have hqc : (i : Int) < (F1 : Int) := by omega
      go_wp2_with fail
      clear k0 k1 k2
      go_loopw [53] (fun a wr => ∃ j : Nat, j ≤ F2 ∧ a = .int .i64 (j : Int) ∧ PkI p (.int .i64 (F1 : Int)) (.int .i64 (F2 : Int)) (pkl l o R C L F2 (i * F2 + j)) wA wr) (fun a _ => F2 - (intOf a).toNat)
      case atStart => exact ⟨0, Nat.zero_le _, rfl, HPk.out⟩
      case round =>
        obtain ⟨j, hj1, rfl, hpk⟩ := hrel
        have HPk2 := Lib.hid hpk
        by_cases hlj : j < F2
        · have hjc : (j : Int) < (F2 : Int) := by omega
          obtain ⟨vv, hB2, ho2, hv2, hbl2⟩ := hpk
          have HNx0 := Lib.hid (pkl_next l o R C L (i := i) hlj)
          have HLl := Lib.hid (pkl_length l o R C L F2 (i * F2 + j))
          have hij := tab_lt hlt hlj
          obtain ⟨LL, hLL⟩ : ∃ LL, pkl l o R C L F2 (i * F2 + j) = LL := ⟨_, rfl⟩
          obtain ⟨x, hx⟩ : ∃ x, atN l o R C L i j = x := ⟨_, rfl⟩
          rw [hLL] at HNx0 HLl ho2
          rw [hx] at HNx0
          have HNx := Lib.hid (show pkl l o R C L F2 (i * F2 + (j + 1)) = LL ++ [x] from HNx0.out)
          have HPw := Lib.hid hB2
          have HOw := Lib.hid ho2
          have HVn := Lib.hid hv2
          have HBl := Lib.hid hbl2
          have HLe := Lib.hid (show LL.length ≤ 100000 by rw [HLl.out]; have := HN.out; have := HNb.out; omega)
          have Hmw := Lib.hid (HmA.out.below HBl.out (by have := Hz.out; omega))
          have HAt := Lib.hid (fun W (hb : Below wr.heap.size wr W) => by
            have h := HAt0.out W i j (HA.out.below (below_nx (HBA.out.trans (HBl.out.mono (by have := Hz.out; omega))) hb))
            rw [hx] at h
            exact h)
          have hj2 : j + 1 ≤ 1048576 := by have := HFb.out; omega
          clear hB2 ho2 hv2 hbl2 hLL hx hij HNx0
          go_wp2_with fail
          refine wp_region_inv [56, 57, 58, 59, 60, 61, 62, 63, 64] (fun d s W => (d 0 = true → s 56 = .pointer (some ⟨p, 2, none⟩)) ∧ (d 1 = true → s 57 = vv) ∧ (d 2 = true → s 58 = .agg #[.slice A n c, .int .i64 (o : Int), .int .i64 (R : Int), .int .i64 (C : Int), .int .i64 (L : Int)]) ∧ (d 3 = true → s 59 = .int .i64 (i : Int)) ∧ (d 4 = true → s 60 = .int .i64 (j : Int)) ∧ (d 5 = true → s 61 = .float .f64 x) ∧ (d 8 = true → s 64 = .pointer (some ⟨p, 2, none⟩)) ∧ (d 9 = true → d 7 = true) ∧ (d 1 = true → d 0 = true) ∧ (d 5 = true → d 2 = true ∧ d 3 = true ∧ d 4 = true) ∧ (d 6 = true → d 2 = true ∧ d 3 = true ∧ d 4 = true ∧ d 5 = true) ∧ (d 7 = true → d 0 = true ∧ d 1 = true ∧ d 2 = true ∧ d 3 = true ∧ d 4 = true ∧ d 5 = true ∧ d 6 = true) ∧ ApK p (.int .i64 (F1 : Int)) (.int .i64 (F2 : Int)) LL x vv wA wr (d 6) (d 7) (d 9) (s 62) (s 63) W)
            rfl (by kernel_rfl) ?_ ?_ ?_
          · exact ⟨by simp, by simp, by simp, by simp, by simp, by simp, by simp, by simp, by simp, by simp, by simp, by simp, ⟨fun _ => ⟨(Below.refl _ _).drew, fun e => by simp at e⟩, fun e => by simp at e⟩⟩
          · refine ⟨?_, ?_, ?_, ?_, ?_, ?_, ?_, ?_, ?_, ?_, trivial⟩
            all_goals
              intro d s W hJ hfr hd hdep
              simp only [List.mem_cons, forall_eq_or_imp, List.not_mem_nil, false_implies, implies_true, and_true, Region.binds] at hdep
              have f2 := hfr 2 (by decide)
              have f6 := hfr 6 (by decide)
              have f7 := hfr 7 (by decide)
              have f8 := hfr 8 (by decide)
              simp at f2 f6 f7 f8 hdep
              obtain ⟨h0, h1, h2, h3, h4, h5, h8, x0, x1, x2, x3, x4, hT⟩ := hJ
            · have hl : d 7 = false := by
                cases h : d 7
                · rfl
                · have := x4 h; simp [hd] at this
              rw [hl] at hT
              unfold OpSteps
              simp [go_sem, evS, f6]
              exact ⟨fun _ => by simp [sput], fun h => by simpa [sput] using h1 (by simpa [did] using h), fun h => by simpa [sput] using h2 (by simpa [did] using h), fun h => by simpa [sput] using h3 (by simpa [did] using h), fun h => by simpa [sput] using h4 (by simpa [did] using h), fun h => by simpa [sput] using h5 (by simpa [did] using h), fun h => by simpa [sput] using h8 (by simpa [did] using h), by simpa [sput, did] using x0, fun h => by have := x1 (by simpa [did] using h); simp [did, this], fun h => by have := x2 (by simpa [did] using h); simp [did, this], fun h => by have := x3 (by simpa [did] using h); simp [did, this], fun h => by have := x4 (by simpa [did] using h); simp [did, this], by simpa [did, sput, hl] using hT⟩
            · have hl : d 7 = false := by
                cases h : d 7
                · rfl
                · have := x4 h; simp [hd] at this
              rw [hl] at hT
              have g0 := h0 (by simp [hdep])
              unfold OpSteps
              obtain ⟨p0, p1, p2⟩ := cells3v (HPw.out.below (hT.1 rfl).1 HPw.out.lt)
              simp [go_sem, evS, g0, p0, p1, p2]
              exact ⟨fun h => by simpa [sput] using h0 (by simpa [did] using h), fun _ => by simp [sput], fun h => by simpa [sput] using h2 (by simpa [did] using h), fun h => by simpa [sput] using h3 (by simpa [did] using h), fun h => by simpa [sput] using h4 (by simpa [did] using h), fun h => by simpa [sput] using h5 (by simpa [did] using h), fun h => by simpa [sput] using h8 (by simpa [did] using h), by simpa [sput, did] using x0, fun _ => by simp [did, hdep], fun h => by have := x2 (by simpa [did] using h); simp [did, this], fun h => by have := x3 (by simpa [did] using h); simp [did, this], fun h => by have := x4 (by simpa [did] using h); simp [did, this], by simpa [did, sput, hl] using hT⟩
            · have hl : d 7 = false := by
                cases h : d 7
                · rfl
                · have := x4 h; simp [hd] at this
              rw [hl] at hT
              unfold OpSteps
              obtain ⟨p0, p1, p2, p3, p4⟩ := cells5 (Hmw.out.below (hT.1 rfl).1 Hmw.out.lt)
              simp [go_sem, evS, f2, p0, p1, p2, p3, p4]
              exact ⟨fun h => by simpa [sput] using h0 (by simpa [did] using h), fun h => by simpa [sput] using h1 (by simpa [did] using h), fun _ => by simp [sput], fun h => by simpa [sput] using h3 (by simpa [did] using h), fun h => by simpa [sput] using h4 (by simpa [did] using h), fun h => by simpa [sput] using h5 (by simpa [did] using h), fun h => by simpa [sput] using h8 (by simpa [did] using h), by simpa [sput, did] using x0, fun h => by have := x1 (by simpa [did] using h); simp [did, this], fun h => by have := x2 (by simpa [did] using h); simp [did, this], fun h => by have := x3 (by simpa [did] using h); simp [did, this], fun h => by have := x4 (by simpa [did] using h); simp [did, this], by simpa [did, sput, hl] using hT⟩
            · have hl : d 7 = false := by
                cases h : d 7
                · rfl
                · have := x4 h; simp [hd] at this
              rw [hl] at hT
              unfold OpSteps
              simp [go_sem, evS, f7]
              exact ⟨fun h => by simpa [sput] using h0 (by simpa [did] using h), fun h => by simpa [sput] using h1 (by simpa [did] using h), fun h => by simpa [sput] using h2 (by simpa [did] using h), fun _ => by simp [sput], fun h => by simpa [sput] using h4 (by simpa [did] using h), fun h => by simpa [sput] using h5 (by simpa [did] using h), fun h => by simpa [sput] using h8 (by simpa [did] using h), by simpa [sput, did] using x0, fun h => by have := x1 (by simpa [did] using h); simp [did, this], fun h => by have := x2 (by simpa [did] using h); simp [did, this], fun h => by have := x3 (by simpa [did] using h); simp [did, this], fun h => by have := x4 (by simpa [did] using h); simp [did, this], by simpa [did, sput, hl] using hT⟩
            · have hl : d 7 = false := by
                cases h : d 7
                · rfl
                · have := x4 h; simp [hd] at this
              rw [hl] at hT
              unfold OpSteps
              simp [go_sem, evS, f8]
              exact ⟨fun h => by simpa [sput] using h0 (by simpa [did] using h), fun h => by simpa [sput] using h1 (by simpa [did] using h), fun h => by simpa [sput] using h2 (by simpa [did] using h), fun h => by simpa [sput] using h3 (by simpa [did] using h), fun _ => by simp [sput], fun h => by simpa [sput] using h5 (by simpa [did] using h), fun h => by simpa [sput] using h8 (by simpa [did] using h), by simpa [sput, did] using x0, fun h => by have := x1 (by simpa [did] using h); simp [did, this], fun h => by have := x2 (by simpa [did] using h); simp [did, this], fun h => by have := x3 (by simpa [did] using h); simp [did, this], fun h => by have := x4 (by simpa [did] using h); simp [did, this], by simpa [did, sput, hl] using hT⟩
            · have hl : d 7 = false := by
                cases h : d 7
                · rfl
                · have := x4 h; simp [hd] at this
              rw [hl] at hT
              have g2 := h2 (by simp [hdep])
              have g3 := h3 (by simp [hdep])
              have g4 := h4 (by simp [hdep])
              unfold OpSteps
              simp [go_sem, evS, g2, g3, g4]
              refine (HAt.out W (hT.1 rfl).1).mono ?_
              rintro e W' ⟨rfl, hb⟩
              refine ⟨_, rfl, ?_⟩
              exact ⟨fun h => by simpa [sput] using h0 (by simpa [did] using h), fun h => by simpa [sput] using h1 (by simpa [did] using h), fun h => by simpa [sput] using h2 (by simpa [did] using h), fun h => by simpa [sput] using h3 (by simpa [did] using h), fun h => by simpa [sput] using h4 (by simpa [did] using h), fun _ => by simp [sput], fun h => by simpa [sput] using h8 (by simpa [did] using h), by simpa [sput, did] using x0, fun h => by have := x1 (by simpa [did] using h); simp [did, this], fun _ => by simp [did, hdep], fun h => by have := x3 (by simpa [did] using h); simp [did, this], fun h => by have := x4 (by simpa [did] using h); simp [did, this], by simpa [did, sput, hl] using hT.nxt hb⟩
            · have hl : d 7 = false := by
                cases h : d 7
                · rfl
                · have := x4 h; simp [hd] at this
              rw [hl] at hT
              have g5 := h5 (by simp [hdep])
              unfold OpSteps
              simp [go_sem, evS, g5]
              exact ⟨fun h => by simpa [sput] using h0 (by simpa [did] using h), fun h => by simpa [sput] using h1 (by simpa [did] using h), fun h => by simpa [sput] using h2 (by simpa [did] using h), fun h => by simpa [sput] using h3 (by simpa [did] using h), fun h => by simpa [sput] using h4 (by simpa [did] using h), fun h => by simpa [sput] using h5 (by simpa [did] using h), fun h => by simpa [sput] using h8 (by simpa [did] using h), by simpa [sput, did] using x0, fun h => by have := x1 (by simpa [did] using h); simp [did, this], fun h => by have := x2 (by simpa [did] using h); simp [did, this], fun _ => by have y5 := x2 (by simp [hdep]); simp [did, hdep, y5], fun h => by have := x4 (by simpa [did] using h); simp [did, this], by rw [hd] at hT; simpa [did, sput, hl] using hT.made⟩
            · have g1 := h1 (by simp [hdep])
              have hd6 : d 6 = true := by simp [hdep]
              have hd9 : d 9 = false := by
                cases h : d 9
                · rfl
                · have := x0 h; simp [hd] at this
              rw [hd6, hd, hd9] at hT
              obtain ⟨gg, v', w', ga, gb, gc⟩ := hT.app HOw.out HVn.out HBl.out HPw.out HLe.out
              refine opSteps_append _ _ _ rfl (by simp only [evS]; exact g1) (by simp only [evS]; exact ga) gb ?_
              exact ⟨fun h => by simpa [sput] using h0 (by simpa [did] using h), fun h => by simpa [sput] using h1 (by simpa [did] using h), fun h => by simpa [sput] using h2 (by simpa [did] using h), fun h => by simpa [sput] using h3 (by simpa [did] using h), fun h => by simpa [sput] using h4 (by simpa [did] using h), fun h => by simpa [sput] using h5 (by simpa [did] using h), fun h => by simpa [sput] using h8 (by simpa [did] using h), fun _ => by simp [did], fun h => by have := x1 (by simpa [did] using h); simp [did, this], fun h => by have := x2 (by simpa [did] using h); simp [did, this], fun h => by have := x3 (by simpa [did] using h); simp [did, this], fun _ => by have y1 := x1 (by simp [hdep]); have y6 := x3 (by simp [hdep]); simp [did, hdep, y1, y6], by simpa [did, sput, hd6, hd9, ga] using gc⟩
            · unfold OpSteps
              simp [go_sem, evS, f6]
              exact ⟨fun h => by simpa [sput] using h0 (by simpa [did] using h), fun h => by simpa [sput] using h1 (by simpa [did] using h), fun h => by simpa [sput] using h2 (by simpa [did] using h), fun h => by simpa [sput] using h3 (by simpa [did] using h), fun h => by simpa [sput] using h4 (by simpa [did] using h), fun h => by simpa [sput] using h5 (by simpa [did] using h), fun _ => by simp [sput], by simpa [sput, did] using x0, fun h => by have := x1 (by simpa [did] using h); simp [did, this], fun h => by have := x2 (by simpa [did] using h); simp [did, this], fun h => by have := x3 (by simpa [did] using h); simp [did, this], fun h => by have := x4 (by simpa [did] using h); simp [did, this], by simpa [did, sput] using hT⟩
            · have g8 := h8 (by simp [hdep])
              unfold OpSteps
              have hd7 : d 7 = true := by simp [hdep]
              rw [hd7, hd] at hT
              obtain ⟨⟨hT1, hT2⟩, _, hT3⟩ := hT.2 rfl
              obtain ⟨g9, c9, gv, _, _, _, _⟩ := own_of hT1 hT2 (by simp)
              simp only [if_neg Bool.false_ne_true] at hT3
              obtain ⟨k0, k1, k2⟩ := cells3v hT3
              obtain ⟨fr0, fr1, fr2⟩ := frozen3v hT3
              simp [go_sem, evS, g8, gv, k0, k1, k2, fr0, fr1, fr2]
              exact ⟨fun h => by simpa [sput] using h0 (by simpa [did] using h), fun h => by simpa [sput] using h1 (by simpa [did] using h), fun h => by simpa [sput] using h2 (by simpa [did] using h), fun h => by simpa [sput] using h3 (by simpa [did] using h), fun h => by simpa [sput] using h4 (by simpa [did] using h), fun h => by simpa [sput] using h5 (by simpa [did] using h), fun h => by simpa [sput] using h8 (by simpa [did] using h), fun _ => by simp [did, hdep], fun h => by have := x1 (by simpa [did] using h); simp [did, this], fun h => by have := x2 (by simpa [did] using h); simp [did, this], fun h => by have := x3 (by simpa [did] using h); simp [did, this], fun h => by have := x4 (by simpa [did] using h); simp [did, this], by simpa [did, sput, hd7, gv] using hT.stored⟩
          intro d s W hJ hd
          obtain ⟨h0, h1, h2, h3, h4, h5, h8, x0, x1, x2, x3, x4, hT⟩ := hJ
          have hA := hT.2 (hd 7 (by decide))
          rw [hd 9 (by decide)] at hA
          simp only [if_true] at hA
          clear h0 h1 h2 h3 h4 h5 h8 x0 x1 x2 x3 x4 hT hd
          obtain ⟨⟨hown, hnv⟩, hbl, hB⟩ := hA
          have HNew := Lib.hid (show PkI p (.int .i64 (F1 : Int)) (.int .i64 (F2 : Int)) (pkl l o R C L F2 (i * F2 + (j + 1))) wA W from by
            have e : pkl l o R C L F2 (i * F2 + (j + 1)) = LL ++ [x] := HNx.out
            rw [e]
            exact ⟨_, hB, by rw [List.length_append, List.length_singleton]; exact hown, hnv, hbl⟩)
          clear hown hnv hbl hB
          simp [setAll]
          generalize s 56 = s56
          generalize s 57 = s57
          generalize s 58 = s58
          generalize s 59 = s59
          generalize s 60 = s60
          generalize s 61 = s61
          generalize s 62 = s62
          generalize s 63 = s63
          generalize s 64 = s64
          go_wp2_with fail
          go_roundw
          case rel => exact ⟨j + 1, by omega, by go_num, HNew.out⟩
          case measure => simp [intOf]; omega
        · obtain rfl : j = F2 := by omega
          have hjc : ¬ (j : Int) < (j : Int) := by omega
          have HPn := Lib.hid (show PkI p (.int .i64 (F1 : Int)) (.int .i64 (j : Int)) (pkl l o R C L j ((i + 1) * j)) wA wr from by
            rw [show (i + 1) * j = i * j + j by rw [Nat.add_mul]; omega]; exact hpk)
          have hi2 : i + 1 ≤ 1048576 := by have := HFb.out; omega
          clear hpk
          go_wp2_with fail
          go_roundw
          case rel => exact ⟨i + 1, by omega, by go_num, HPn.out⟩
          case measure => simp [intOf]; omega
    · obtain rfl : i = F1 := by omega
      have hqc : ¬ (i : Int) < (i : Int) := by omega
      have e9 := HN.out
      have hlen := pkl_length l o R C L F2 N
      rw [e9] at Ho1
      have Ho2 := Ho1.out
      rw [hlen] at Ho2
      obtain ⟨g, cap, hvv, hg, hgc, hcm, hO⟩ := own_of Ho2 Hw.out hlen.symm
      subst hvv
      have HO := Lib.hid hO
      have hg' := hg
      have HrE := Lib.hid (HrA.out.below Hbl1.out (by have := Hz.out; omega))
      obtain ⟨r0, r1, r2⟩ := cells3v HrE.out
      obtain ⟨z0, z1, z2⟩ := frozen3v HrE.out
      have HSt := Lib.hid (HrE.out.store3v (.int .i64 (i : Int)) (.int .i64 (F2 : Int)) (.slice (some ⟨g, 0, none⟩) N cap))
      have HBe := Lib.hid (below3g (HBA.out.trans (Hbl1.out.mono (by have := Hz.out; omega))) (show w.heap.size ≤ w.heap.size + 1 by omega) (.int .i64 (i : Int)) (.int .i64 (F2 : Int)) (.slice (some ⟨g, 0, none⟩) N cap))
      have HOe := Lib.hid (own3g (p := w.heap.size + 1) HO.out (by have := Hz.out; omega) (.int .i64 (i : Int)) (.int .i64 (F2 : Int)) (.slice (some ⟨g, 0, none⟩) N cap))
      have hgz : w.heap.size ≤ g := by have := Hz.out; omega
      clear hO hg hgc hcm hlen Ho2
      go_wp2_with fail
      obtain ⟨j0, j1, j2⟩ := cells3v HSt.out
      exact bodyPost_ret (v := .tuple #[.agg #[.int .i64 (i : Int), .int .i64 (F2 : Int), .slice (some ⟨g, 0, none⟩) N cap], .int .i64 0]) (by simp [results, Try.results8, go_sem, j0, j1, j2]) rfl ⟨g, cap, rfl, HOe.out, hgz, HOe.out.lt, HBe.out⟩
end Go.Proofs.Ytbjopdnfjjcpoaa
