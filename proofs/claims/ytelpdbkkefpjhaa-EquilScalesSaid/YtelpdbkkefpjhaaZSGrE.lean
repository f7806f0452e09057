/-
Ger: the document's Copy of a table, Set, what counts of an exponent. Conditions: as each says.
-/
import Derived.Test.YtelpdbkkefpjhaaWSo
import Derived.Test.YtelpdbkkefpjhaaWSk
import Derived.Test.YtelpdbkkefpjhaaWSj
set_option linter.unusedVariables false
set_option linter.unusedSimpArgs false
set_option linter.unnecessarySimpa false
namespace Go.Proofs.Ytelpdbkkefpjhaa
open Go.RowKit
attribute [local go_sem ↓] Go.wp_at_zero Go.wp_at_succ

theorem rat8_any (R C gT N cT : Nat) (T : List Nat) (a b : Nat) (w : World) (hT : Row w (some ⟨gT, 0, none⟩) (f64s T)) (hTl : T.length = N) (hN : N < 1048576) (hab : a * C + b < N) :
    Calls Try.prog 21 #[.agg #[.int .i64 R, .int .i64 C, .slice (some ⟨gT, 0, none⟩) N cT], .int .i64 (a : Int), .int .i64 (b : Int)] w fun e w' => e = .returned (.float .f64 (T.getD (a * C + b) 0)) ∧ Below w.heap.size w w' := by
  have hPl : a * C + b < T.length := by rw [hTl]; exact hab
  obtain ⟨gb, x, hgx, _, hcell0⟩ := hT.at_ (f64s_get T _ hPl)
  injection hgx with hgx
  injection hgx with hg1 hg2
  subst hg1
  subst hg2
  have hv : T.getD (a * C + b) 0 = T[a * C + b] := getD_of_lt hPl
  rw [hv]
  have HB := Lib.hid ((Below.refl w.heap.size w).alloc (Nat.le_refl _) (.cells #[.int .i64 R, .int .i64 C, .slice (some ⟨gT, 0, none⟩) N cT] 32))
  have hcell := cell_below hcell0 HB.out
  generalize T[a * C + b] = v at *
  obtain ⟨p, hp⟩ : ∃ p, a * C = p := ⟨_, rfl⟩
  obtain ⟨P, hPd⟩ : ∃ P, p + b = P := ⟨_, rfl⟩
  have e1 : ((a : Int) * (C : Int)) = (p : Int) := by rw [← hp]; simp
  have e2 : (p : Int) + (b : Int) = (P : Int) := by rw [← hPd]; simp
  have hPN : P < N := by rw [← hPd, ← hp]; exact hab
  have HW := Lib.hid (wrap3 (o := b) (a := p) (P := P) (by omega) (by rw [← hPd, Nat.add_comm]))
  rw [hp, hPd, Nat.zero_add] at hcell
  have b1 : (P : Int) < (N : Int) := by omega
  have b0 : (0 : Int) ≤ (P : Int) := by omega
  have b2 := hPN
  clear hPl hcell0 hv hp hPd hPN hT hTl hab
  obtain ⟨u1, u2, u3, u4⟩ := HW.out
  go_enter Try.func21, Try.ntmps21
  go_wp2_with fail
  go_ret
  exact ⟨rfl, HB.out⟩

theorem owns_nxtg {w w' : World} {B : Nat} {e : TypeId} {s : Nat} {v : Value} {n : Nat} {xs : List Value} (h : w.ownsRow B e s v n xs) (hb : Below w.heap.size w w') : w'.ownsRow B e s v n xs := by
  refine ⟨h.1, h.2.imp id ?_⟩
  rintro ⟨g, cap, cur, h1, h2, h3, h4⟩
  have hg : g < w.heap.size := by
    rcases Nat.lt_or_ge g w.heap.size with hl | hl
    · exact hl
    · rw [Array.getElem?_eq_none hl] at h3; cases h3
  exact ⟨g, cap, cur, h1, h2, (hb.block g hg).trans h3, h4⟩

theorem own_lo {w : World} {B B' : Nat} {e : TypeId} {s n : Nat} {v : Value} {xs : List Value} (h : w.ownsRow B e s v n xs) (hb : B' ≤ B) : w.ownsRow B' e s v n xs := by
  obtain ⟨hl, h | ⟨g, cap, cur, h1, h2, h3⟩⟩ := h
  · exact ⟨hl, .inl h⟩
  · exact ⟨hl, .inr ⟨g, cap, cur, h1, Nat.le_trans hb h2, h3⟩⟩
theorem blk3g {W : World} {b p : Nat} {t : TypeId} {cs : Array Value} (h : Blk W b t cs) (hne : b ≠ p) (x0 x1 x2 : Value) : Blk (((W.setCell ⟨p, 0, none⟩ x0).setCell ⟨p, 1, none⟩ x1).setCell ⟨p, 2, none⟩ x2) b t cs := (heap_sets3 hne x0 x1 x2).trans h
theorem own3g {W : World} {b p : Nat} {l : List Nat} (h : Own W b l) (hne : b ≠ p) (x0 x1 x2 : Value) : Own (((W.setCell ⟨p, 0, none⟩ x0).setCell ⟨p, 1, none⟩ x1).setCell ⟨p, 2, none⟩ x2) b l := by
  obtain ⟨cs, h1, h2⟩ := h
  exact ⟨cs, blk3g h1 hne _ _ _, h2⟩
theorem below3g {z : Nat} {w W : World} (h : Below z w W) {p : Nat} (hz : z ≤ p) (x0 x1 x2 : Value) : Below z w (((W.setCell ⟨p, 0, none⟩ x0).setCell ⟨p, 1, none⟩ x1).setCell ⟨p, 2, none⟩ x2) :=
  ((h.setCell (p := ⟨p, 0, none⟩) hz x0).setCell (p := ⟨p, 1, none⟩) hz x1).setCell (p := ⟨p, 2, none⟩) hz x2
theorem rset_own (r k : Int) (g n c : Nat) (T : List Nat) (i j p v : Nat) (w : World) (hO : Own w g T) (hT : T.length = n) (hp : p < n) (hn : n < 9223372036854775808) (he : (i : Int) * k + (j : Int) = (p : Int)) (hm : I64 ((i : Int) * k)) :
    Calls Try.prog 34 #[tbl r k g n c, .int .i64 i, .int .i64 j, .float .f64 v] w fun e w' => e = .returned (.tuple #[]) ∧ Own w' g (T.set p v) ∧ Only g w w' := by
  unfold I64 at hm
  have hO2 := hO.nxt (below_one (W := w) (o := .cells #[.int .i64 r, .int .i64 k, .slice (some ⟨g, 0, none⟩) n c] 32))
  have c0 := hO2.get p (by omega)
  have f0 := hO2.frozen p
  have HS := Lib.hid ((hO.set_ p v (by omega)).nxt (below_one (o := .cells #[.int .i64 r, .int .i64 k, .slice (some ⟨g, 0, none⟩) n c] 32)))
  have HO := Lib.hid (((Only.refl g w).set_ p (.float .f64 v)).alloc_ (.cells #[.int .i64 r, .int .i64 k, .slice (some ⟨g, 0, none⟩) n c] 32))
  obtain ⟨x, hx⟩ : ∃ x, T[p]'(by omega) = x := ⟨_, rfl⟩
  rw [hx] at c0
  have w1 : IntKind.i64.wrap ((i : Int) * k) = (i : Int) * k := wrapi (by omega) (by omega)
  have w2 : IntKind.i64.wrap (p : Int) = (p : Int) := wrapi (by omega) (by omega)
  have hpn : (p : Int) < (n : Int) := by omega
  have hlt := hO.lt
  clear hx hO2 hO
  unfold tbl
  go_enter Try.func34, Try.ntmps34
  go_wp2_with fail
  go_end0
  exact ⟨rfl, HS.out, HO.out⟩
/-- A table is filled row by row: the first rows' numbers, and the next row's first, are what was asked. -/
def Ptb (N : Nat) (pos : Nat → Nat → Nat) (R C : Nat) (P : Nat → Nat → Nat → Prop) (i j : Nat) (T : List Nat) : Prop :=
  T.length = N ∧ ∀ a, a < R → ∀ b, b < C → (a < i ∨ (a = i ∧ b < j)) → P a b (T.getD (pos a b) 0)
theorem Ptb.zero {N R C : Nat} {pos : Nat → Nat → Nat} {P : Nat → Nat → Nat → Prop} {T : List Nat} (h : T.length = N) : Ptb N pos R C P 0 0 T := ⟨h, fun a _ b _ h => by omega⟩
theorem Ptb.next {N R C i : Nat} {pos : Nat → Nat → Nat} {P : Nat → Nat → Nat → Prop} {T : List Nat} (h : Ptb N pos R C P i C T) : Ptb N pos R C P (i + 1) 0 T :=
  ⟨h.1, fun a ha b hb e => h.2 a ha b hb (by omega)⟩
theorem Ptb.done {N R C : Nat} {pos : Nat → Nat → Nat} {P : Nat → Nat → Nat → Prop} {T : List Nat} (h : Ptb N pos R C P R 0 T) : ∀ a, a < R → ∀ b, b < C → P a b (T.getD (pos a b) 0) :=
  fun a ha b hb => h.2 a ha b hb (.inl ha)
theorem Ptb.step {N R C i j r : Nat} {pos : Nat → Nat → Nat} {P : Nat → Nat → Nat → Prop} {T : List Nat} (h : Ptb N pos R C P i j T) (hinj : ∀ a, a < R → ∀ b, b < C → pos a b = pos i j → a = i ∧ b = j) (hp : pos i j < N) (hr : P i j r) : Ptb N pos R C P i (j + 1) (T.set (pos i j) r) := by
  refine ⟨by rw [List.length_set]; exact h.1, fun a ha b hb e => ?_⟩
  by_cases h1 : a = i ∧ b = j
  · obtain ⟨rfl, rfl⟩ := h1
    rw [getD_set_self (by rw [h.1]; exact hp)]
    exact hr
  · rw [getD_set_ne _ (fun e2 => h1 (hinj a ha b hb e2.symm))]
    exact h.2 a ha b hb (by omega)
theorem tab_injg {C a b a' b' : Nat} (hb : b < C) (hb' : b' < C) (h : a * C + b = a' * C + b') : a = a' ∧ b = b' := by
  have h2 : b + a * C = b' + a' * C := by omega
  have := spots_inj hb hb' h2
  exact ⟨this.2, this.1⟩
theorem tab_facts {R C N i j : Nat} (hN : R * C = N) (hNb : N ≤ 1048576) (hi : i < R) (hj : j < C) : i * C + j < N ∧ I64 ((i : Int) * (C : Int)) ∧ (i : Int) * (C : Int) + (j : Int) = ((i * C + j : Nat) : Int) := by
  have h1 := tab_lt hi hj
  have e : (i : Int) * (C : Int) = ((i * C : Nat) : Int) := by simp
  rw [e]
  unfold I64
  omega
/-- A number of the table has been set. -/
def SetD (g p : Nat) (R : Nat → Prop) (T1 : List Nat) (wr W : World) : Prop := ∃ W' r, Below wr.heap.size wr W' ∧ R r ∧ Own W g (T1.set p r) ∧ Only g W' W
/-- A list that is no longer nil, and empty; a list of its own; a table. -/
def EmS (W : World) (v : Value) (z : Nat) : Prop := W.ownsRow (z + 2) 45 1 v 0 [] ∧ v ≠ .slice none 0 0
def SlQ (W : World) (v : Value) (z N : Nat) (T : List Nat) : Prop := ∃ g c, v = .slice (some ⟨g, 0, none⟩) N c ∧ Own W g T ∧ z + 2 ≤ g
def TbO (W : World) (v : Value) (z R C N : Nat) (T : List Nat) : Prop := ∃ g c, v = .agg #[.int .i64 (R : Int), .int .i64 (C : Int), .slice (some ⟨g, 0, none⟩) N c] ∧ Own W g T ∧ z + 2 ≤ g
theorem EmS.below {W W' : World} {v : Value} {z : Nat} (h : EmS W v z) (hb : Below W.heap.size W W') : EmS W' v z := ⟨owns_nxtg h.1 hb, h.2⟩
theorem EmS.new (W : World) (z : Nat) (h : z + 2 ≤ W.heap.size) : EmS (W.alloc (.cells #[] 45)) (.slice (some ⟨W.heap.size, 0, none⟩) 0 0) z := ⟨own_lo (own_empty W) h, by simp⟩
theorem SlQ.below {W W' : World} {v : Value} {z N : Nat} {T : List Nat} (h : SlQ W v z N T) (hb : Below W.heap.size W W') : SlQ W' v z N T := by
  obtain ⟨g, c, h1, h2, h3⟩ := h; exact ⟨g, c, h1, h2.nxt hb, h3⟩
theorem TbO.below {W W' : World} {v : Value} {z R C N : Nat} {T : List Nat} (h : TbO W v z R C N T) (hb : Below W.heap.size W W') : TbO W' v z R C N T := by
  obtain ⟨g, c, h1, h2, h3⟩ := h; exact ⟨g, c, h1, h2.nxt hb, h3⟩
/-- The boxes of Copy, before and behind the last store. -/
def CopB (w : World) (z : Nat) (tb : Array Value) (R C N : Nat) (T : List Nat) (b : Bool) (W : World) : Prop :=
  Below z w W ∧ Blk W z 32 tb ∧ (b = false → Blk W (z + 1) 32 #[.int .i64 0, .int .i64 0, .slice none 0 0]) ∧ (b = true → ∃ g c, Blk W (z + 1) 32 #[.int .i64 (R : Int), .int .i64 (C : Int), .slice (some ⟨g, 0, none⟩) N c] ∧ Own W g T ∧ z + 2 ≤ g)
theorem CopB.nxt {w W W' : World} {z : Nat} {tb : Array Value} {R C N : Nat} {T : List Nat} {b : Bool} (hz : z = w.heap.size) (h : CopB w z tb R C N T b W) (hb : Below W.heap.size W W') : CopB w z tb R C N T b W' := by
  subst hz
  refine ⟨below_nx h.1 hb, h.2.1.nxt hb, fun e => (h.2.2.1 e).nxt hb, fun e => ?_⟩
  obtain ⟨g, c, h1, h2, h3⟩ := h.2.2.2 e
  exact ⟨g, c, h1.nxt hb, h2.nxt hb, h3⟩
theorem copy_app {w W : World} {z : Nat} {tb : Array Value} {R C N gT cT : Nat} {T : List Nat} {v : Value} (hz : z = w.heap.size) (h : CopB w z tb R C N T false W) (he : EmS W v z) (hT : Row w (some ⟨gT, 0, none⟩) (f64s T)) (hl : T.length = N) (hN : N ≤ 1048576) :
    ∃ v' w', (Builtin.append_ #[22, 22] 22 #[v, .slice (some ⟨gT, 0, none⟩) N cT]).run Try.prog W = .ok v' w' ∧ SlQ w' v' z N T ∧ CopB w z tb R C N T false w' := by
  obtain ⟨i0, hi, hz0, hz1, hz2⟩ := fi0
  subst hz
  have hT2 : Row W (some ⟨gT, 0, none⟩) (f64s T) := hT.below h.1
  have hsz := (h.2.2.1 rfl).lt
  obtain ⟨v', w', r1, r2, r3, r4⟩ := run_append_own W (w.heap.size + 2) 22 22 45 i0 (.float .f64 0) 1 8 Try.underlying22 hi hz0 hz1 hz2 rfl (by decide) v 0 [] he.1 ⟨gT, 0, none⟩ N cT (f64s T) (by simp [f64s, hl]) (row_add hT2) (one_cells T) (by unfold maxLen; omega) (by omega) (by omega)
  have hne : v' ≠ .slice none 0 0 := fun e => he.2 (r4.1 e).1
  have r2' : w'.ownsRow (w.heap.size + 2) 45 1 v' N (f64s T) := by simpa using r2
  obtain ⟨g, c, e1, e2, _, _, e3⟩ := own_of r2' hne hl.symm
  have hlo := fun k (hk : v.ownBlock = some k) => (he.1.lt k hk).1
  refine ⟨v', w', r1, ⟨g, c, e1, e3, e2⟩, h.1.grown r3 (by omega) (fun k hk => by have := hlo k hk; omega), ?_, fun _ => ?_, fun e => by cases e⟩
  · exact (r3.block _ h.2.1.lt (fun e => by have := hlo _ e.symm; omega)).trans h.2.1
  · exact (r3.block _ hsz (fun e => by have := hlo _ e.symm; omega)).trans (h.2.2.1 rfl)

set_option maxRecDepth 100000 in
set_option maxHeartbeats 2000000 in
theorem rmcopy_any (R C gT N cT : Nat) (T : List Nat) (w : World) (hT : Row w (some ⟨gT, 0, none⟩) (f64s T)) (hTl : T.length = N) (hNb : N ≤ 1048576) :
    Calls Try.prog 43 #[tbl R C gT N cT] w fun e w' => ∃ g c, e = .returned (tbl R C g N c) ∧ Own w' g T ∧ w.heap.size + 2 ≤ g ∧ Below w.heap.size w w' := by
  have HTr := Lib.hid hT
  have HTl := Lib.hid hTl
  have HNb := Lib.hid hNb
  clear hT hTl hNb
  unfold tbl
  go_enter Try.func43, Try.ntmps43
  have HZ0 := Lib.hid ((Blk.new w 32 #[.int .i64 (R : Int), .int .i64 (C : Int), .slice (some ⟨gT, 0, none⟩) N cT]).alloc (.cells #[.int .i64 0, .int .i64 0, .slice none 0 0] 32))
  have HE0 := Lib.hid (Blk.new_ (w.alloc (.cells #[.int .i64 (R : Int), .int .i64 (C : Int), .slice (some ⟨gT, 0, none⟩) N cT] 32)) 32 #[.int .i64 0, .int .i64 0, .slice none 0 0] (w.heap.size + 1) (by simp))
  have HB0 := Lib.hid (((Below.refl w.heap.size w).alloc (Nat.le_refl _) (.cells #[.int .i64 (R : Int), .int .i64 (C : Int), .slice (some ⟨gT, 0, none⟩) N cT] 32)).alloc (by simp) (.cells #[.int .i64 0, .int .i64 0, .slice none 0 0] 32))
  go_wp2_with fail
  generalize hw1 : (w.alloc (.cells #[.int .i64 (R : Int), .int .i64 (C : Int), .slice (some ⟨gT, 0, none⟩) N cT] 32)).alloc (.cells #[.int .i64 0, .int .i64 0, .slice none 0 0] 32) = w1 at *
  generalize hz : w.heap.size = z at *
  have Hz := Lib.hid hz
  clear hw1 hz
  have HTB := Lib.hid (show CopB w z #[.int .i64 (R : Int), .int .i64 (C : Int), .slice (some ⟨gT, 0, none⟩) N cT] R C N T false w1.drew from ⟨HB0.out.drew, HZ0.out.drew, fun _ => HE0.out.drew, fun e => by cases e⟩)
  refine wp_region_inv [3, 4, 5, 6, 7, 8, 9, 10, 11] (fun d s W => (d 0 = true → s 3 = .pointer (some ⟨z, 0, none⟩)) ∧ (d 1 = true → s 4 = .int .i64 (R : Int)) ∧ (d 2 = true → s 5 = .pointer (some ⟨z, 1, none⟩)) ∧ (d 3 = true → s 6 = .int .i64 (C : Int)) ∧ (d 4 = true → (d 7 = false → EmS W (s 7) z)) ∧ (d 5 = true → s 8 = .pointer (some ⟨z, 2, none⟩)) ∧ (d 6 = true → s 9 = .slice (some ⟨gT, 0, none⟩) N cT) ∧ (d 7 = true → (d 9 = false → SlQ W (s 10) z N T)) ∧ (d 8 = true → (d 9 = false → TbO W (s 11) z R C N T)) ∧ (d 1 = true → d 0 = true) ∧ (d 3 = true → d 2 = true) ∧ (d 6 = true → d 5 = true) ∧ (d 7 = true → d 4 = true ∧ d 5 = true ∧ d 6 = true) ∧ (d 8 = true → d 0 = true ∧ d 1 = true ∧ d 2 = true ∧ d 3 = true ∧ d 4 = true ∧ d 5 = true ∧ d 6 = true ∧ d 7 = true) ∧ (d 9 = true → d 0 = true ∧ d 1 = true ∧ d 2 = true ∧ d 3 = true ∧ d 4 = true ∧ d 5 = true ∧ d 6 = true ∧ d 7 = true ∧ d 8 = true) ∧ CopB w z #[.int .i64 (R : Int), .int .i64 (C : Int), .slice (some ⟨gT, 0, none⟩) N cT] R C N T (d 9) W)
    rfl (by kernel_rfl) ?_ ?_ ?_
  · exact ⟨by simp, by simp, by simp, by simp, by simp, by simp, by simp, by simp, by simp, by simp, by simp, by simp, by simp, by simp, by simp, HTB.out⟩
  · refine ⟨?_, ?_, ?_, ?_, ?_, ?_, ?_, ?_, ?_, ?_, trivial⟩
    all_goals
      intro d s W hJ hfr hd hdep
      simp only [List.mem_cons, forall_eq_or_imp, List.not_mem_nil, false_implies, implies_true, and_true, Region.binds] at hdep
      have f1 := hfr 1 (by decide)
      have f2 := hfr 2 (by decide)
      simp at f1 f2 hdep
      obtain ⟨h0, h1, h2, h3, h4, h5, h6, h7, h8, x0, x1, x2, x3, x4, x5, hT⟩ := hJ
    · have hl : d 9 = false := by
        cases h : d 9
        · rfl
        · have := x5 h; simp [hd] at this
      unfold OpSteps
      simp [go_sem, evS, f1]
      exact ⟨fun _ => by simp [sput], fun h => by simpa [sput] using h1 (by simpa [did] using h), fun h => by simpa [sput] using h2 (by simpa [did] using h), fun h => by simpa [sput] using h3 (by simpa [did] using h), fun h e => by simpa [sput] using (h4 (by simpa [did] using h) (by simpa [did] using e)), fun h => by simpa [sput] using h5 (by simpa [did] using h), fun h => by simpa [sput] using h6 (by simpa [did] using h), fun h e => by simpa [sput] using (h7 (by simpa [did] using h) (by simpa [did] using e)), fun h e => by simpa [sput] using (h8 (by simpa [did] using h) (by simpa [did] using e)), fun h => by have := x0 (by simpa [did] using h); simp [did, this], fun h => by have := x1 (by simpa [did] using h); simp [did, this], fun h => by have := x2 (by simpa [did] using h); simp [did, this], fun h => by have := x3 (by simpa [did] using h); simp [did, this], fun h => by have := x4 (by simpa [did] using h); simp [did, this], fun h => by have := x5 (by simpa [did] using h); simp [did, this], by simpa [did] using hT⟩
    · have hl : d 9 = false := by
        cases h : d 9
        · rfl
        · have := x5 h; simp [hd] at this
      have g0 := h0 (by simp [hdep])
      unfold OpSteps
      obtain ⟨p0, p1, p2⟩ := cells3v hT.2.1
      simp [go_sem, evS, g0, p0, p1, p2]
      exact ⟨fun h => by simpa [sput] using h0 (by simpa [did] using h), fun _ => by simp [sput], fun h => by simpa [sput] using h2 (by simpa [did] using h), fun h => by simpa [sput] using h3 (by simpa [did] using h), fun h e => by simpa [sput] using (h4 (by simpa [did] using h) (by simpa [did] using e)), fun h => by simpa [sput] using h5 (by simpa [did] using h), fun h => by simpa [sput] using h6 (by simpa [did] using h), fun h e => by simpa [sput] using (h7 (by simpa [did] using h) (by simpa [did] using e)), fun h e => by simpa [sput] using (h8 (by simpa [did] using h) (by simpa [did] using e)), fun _ => by simp [did, hdep], fun h => by have := x1 (by simpa [did] using h); simp [did, this], fun h => by have := x2 (by simpa [did] using h); simp [did, this], fun h => by have := x3 (by simpa [did] using h); simp [did, this], fun h => by have := x4 (by simpa [did] using h); simp [did, this], fun h => by have := x5 (by simpa [did] using h); simp [did, this], by simpa [did] using hT⟩
    · have hl : d 9 = false := by
        cases h : d 9
        · rfl
        · have := x5 h; simp [hd] at this
      unfold OpSteps
      simp [go_sem, evS, f1]
      exact ⟨fun h => by simpa [sput] using h0 (by simpa [did] using h), fun h => by simpa [sput] using h1 (by simpa [did] using h), fun _ => by simp [sput], fun h => by simpa [sput] using h3 (by simpa [did] using h), fun h e => by simpa [sput] using (h4 (by simpa [did] using h) (by simpa [did] using e)), fun h => by simpa [sput] using h5 (by simpa [did] using h), fun h => by simpa [sput] using h6 (by simpa [did] using h), fun h e => by simpa [sput] using (h7 (by simpa [did] using h) (by simpa [did] using e)), fun h e => by simpa [sput] using (h8 (by simpa [did] using h) (by simpa [did] using e)), fun h => by have := x0 (by simpa [did] using h); simp [did, this], fun h => by have := x1 (by simpa [did] using h); simp [did, this], fun h => by have := x2 (by simpa [did] using h); simp [did, this], fun h => by have := x3 (by simpa [did] using h); simp [did, this], fun h => by have := x4 (by simpa [did] using h); simp [did, this], fun h => by have := x5 (by simpa [did] using h); simp [did, this], by simpa [did] using hT⟩
    · have hl : d 9 = false := by
        cases h : d 9
        · rfl
        · have := x5 h; simp [hd] at this
      have g2 := h2 (by simp [hdep])
      unfold OpSteps
      obtain ⟨p0, p1, p2⟩ := cells3v hT.2.1
      simp [go_sem, evS, g2, p0, p1, p2]
      exact ⟨fun h => by simpa [sput] using h0 (by simpa [did] using h), fun h => by simpa [sput] using h1 (by simpa [did] using h), fun h => by simpa [sput] using h2 (by simpa [did] using h), fun _ => by simp [sput], fun h e => by simpa [sput] using (h4 (by simpa [did] using h) (by simpa [did] using e)), fun h => by simpa [sput] using h5 (by simpa [did] using h), fun h => by simpa [sput] using h6 (by simpa [did] using h), fun h e => by simpa [sput] using (h7 (by simpa [did] using h) (by simpa [did] using e)), fun h e => by simpa [sput] using (h8 (by simpa [did] using h) (by simpa [did] using e)), fun h => by have := x0 (by simpa [did] using h); simp [did, this], fun _ => by simp [did, hdep], fun h => by have := x2 (by simpa [did] using h); simp [did, this], fun h => by have := x3 (by simpa [did] using h); simp [did, this], fun h => by have := x4 (by simpa [did] using h); simp [did, this], fun h => by have := x5 (by simpa [did] using h); simp [did, this], by simpa [did] using hT⟩
    · have hl : d 9 = false := by
        cases h : d 9
        · rfl
        · have := x5 h; simp [hd] at this
      unfold OpSteps
      simp [go_sem, evS]
      exact ⟨fun h => by simpa [sput] using h0 (by simpa [did] using h), fun h => by simpa [sput] using h1 (by simpa [did] using h), fun h => by simpa [sput] using h2 (by simpa [did] using h), fun h => by simpa [sput] using h3 (by simpa [did] using h), fun _ => fun _ => by simpa [sput] using EmS.new W z (by have := (hT.2.2.1 hl).lt; omega), fun h => by simpa [sput] using h5 (by simpa [did] using h), fun h => by simpa [sput] using h6 (by simpa [did] using h), fun h e => by simpa [sput] using (h7 (by simpa [did] using h) (by simpa [did] using e)).below (below_one), fun h e => by simpa [sput] using (h8 (by simpa [did] using h) (by simpa [did] using e)).below (below_one), fun h => by have := x0 (by simpa [did] using h); simp [did, this], fun h => by have := x1 (by simpa [did] using h); simp [did, this], fun h => by have := x2 (by simpa [did] using h); simp [did, this], fun h => by have := x3 (by simpa [did] using h); simp [did, this], fun h => by have := x4 (by simpa [did] using h); simp [did, this], fun h => by have := x5 (by simpa [did] using h); simp [did, this], by simpa [did] using hT.nxt Hz.out.symm below_one⟩
    · have hl : d 9 = false := by
        cases h : d 9
        · rfl
        · have := x5 h; simp [hd] at this
      unfold OpSteps
      simp [go_sem, evS, f1]
      exact ⟨fun h => by simpa [sput] using h0 (by simpa [did] using h), fun h => by simpa [sput] using h1 (by simpa [did] using h), fun h => by simpa [sput] using h2 (by simpa [did] using h), fun h => by simpa [sput] using h3 (by simpa [did] using h), fun h e => by simpa [sput] using (h4 (by simpa [did] using h) (by simpa [did] using e)), fun _ => by simp [sput], fun h => by simpa [sput] using h6 (by simpa [did] using h), fun h e => by simpa [sput] using (h7 (by simpa [did] using h) (by simpa [did] using e)), fun h e => by simpa [sput] using (h8 (by simpa [did] using h) (by simpa [did] using e)), fun h => by have := x0 (by simpa [did] using h); simp [did, this], fun h => by have := x1 (by simpa [did] using h); simp [did, this], fun h => by have := x2 (by simpa [did] using h); simp [did, this], fun h => by have := x3 (by simpa [did] using h); simp [did, this], fun h => by have := x4 (by simpa [did] using h); simp [did, this], fun h => by have := x5 (by simpa [did] using h); simp [did, this], by simpa [did] using hT⟩
    · have hl : d 9 = false := by
        cases h : d 9
        · rfl
        · have := x5 h; simp [hd] at this
      have g5 := h5 (by simp [hdep])
      unfold OpSteps
      obtain ⟨p0, p1, p2⟩ := cells3v hT.2.1
      simp [go_sem, evS, g5, p0, p1, p2]
      exact ⟨fun h => by simpa [sput] using h0 (by simpa [did] using h), fun h => by simpa [sput] using h1 (by simpa [did] using h), fun h => by simpa [sput] using h2 (by simpa [did] using h), fun h => by simpa [sput] using h3 (by simpa [did] using h), fun h e => by simpa [sput] using (h4 (by simpa [did] using h) (by simpa [did] using e)), fun h => by simpa [sput] using h5 (by simpa [did] using h), fun _ => by simp [sput], fun h e => by simpa [sput] using (h7 (by simpa [did] using h) (by simpa [did] using e)), fun h e => by simpa [sput] using (h8 (by simpa [did] using h) (by simpa [did] using e)), fun h => by have := x0 (by simpa [did] using h); simp [did, this], fun h => by have := x1 (by simpa [did] using h); simp [did, this], fun _ => by simp [did, hdep], fun h => by have := x3 (by simpa [did] using h); simp [did, this], fun h => by have := x4 (by simpa [did] using h); simp [did, this], fun h => by have := x5 (by simpa [did] using h); simp [did, this], by simpa [did] using hT⟩
    · have hl : d 9 = false := by
        cases h : d 9
        · rfl
        · have := x5 h; simp [hd] at this
      have g4 := h4 (by simp [hdep])
      have g6 := h6 (by simp [hdep])
      have hT' := hT
      rw [hl] at hT'
      obtain ⟨v9, w9, hr9, hq9, hc9⟩ := copy_app (cT := cT) Hz.out.symm hT' (g4 hd) HTr.out HTl.out HNb.out
      refine opSteps_append _ _ _ rfl (by simp only [evS]) (by simp only [evS]; exact g6) hr9 ?_
      exact ⟨fun h => by simpa [sput] using h0 (by simpa [did] using h), fun h => by simpa [sput] using h1 (by simpa [did] using h), fun h => by simpa [sput] using h2 (by simpa [did] using h), fun h => by simpa [sput] using h3 (by simpa [did] using h), fun h e => by simp [did] at e, fun h => by simpa [sput] using h5 (by simpa [did] using h), fun h => by simpa [sput] using h6 (by simpa [did] using h), fun _ => fun _ => by simpa [sput] using hq9, fun h => by have := x4 (by simpa [did] using h); simp [hd] at this, fun h => by have := x0 (by simpa [did] using h); simp [did, this], fun h => by have := x1 (by simpa [did] using h); simp [did, this], fun h => by have := x2 (by simpa [did] using h); simp [did, this], fun _ => by have y6 := x2 (by simp [hdep]); simp [did, hdep, y6], fun h => by have := x4 (by simpa [did] using h); simp [did, this], fun h => by have := x5 (by simpa [did] using h); simp [did, this], by simpa [did, hl] using hc9⟩
    · have hl : d 9 = false := by
        cases h : d 9
        · rfl
        · have := x5 h; simp [hd] at this
      have g1 := h1 (by simp [hdep])
      have g3 := h3 (by simp [hdep])
      have g7 := h7 (by simp [hdep])
      unfold OpSteps
      obtain ⟨g9, c9, gv, gO, gq⟩ := g7 hl
      simp [go_sem, evS, g1, g3, gv]
      exact ⟨fun h => by simpa [sput] using h0 (by simpa [did] using h), fun h => by simpa [sput] using h1 (by simpa [did] using h), fun h => by simpa [sput] using h2 (by simpa [did] using h), fun h => by simpa [sput] using h3 (by simpa [did] using h), fun h e => by simpa [sput] using (h4 (by simpa [did] using h) (by simpa [did] using e)), fun h => by simpa [sput] using h5 (by simpa [did] using h), fun h => by simpa [sput] using h6 (by simpa [did] using h), fun h e => by simpa [sput] using (h7 (by simpa [did] using h) (by simpa [did] using e)), fun _ => fun _ => ⟨g9, c9, by simp [sput], gO, gq⟩, fun h => by have := x0 (by simpa [did] using h); simp [did, this], fun h => by have := x1 (by simpa [did] using h); simp [did, this], fun h => by have := x2 (by simpa [did] using h); simp [did, this], fun h => by have := x3 (by simpa [did] using h); simp [did, this], fun _ => by have y1 := x0 (by simp [hdep]); have y3 := x1 (by simp [hdep]); have y7 := x3 (by simp [hdep]); simp [did, hdep, y1, y3, y7], fun h => by have := x5 (by simpa [did] using h); simp [did, this], by simpa [did] using hT⟩
    · have g8 := h8 (by simp [hdep])
      unfold OpSteps
      obtain ⟨g9, c9, gv, gO, gq⟩ := g8 hd
      obtain ⟨hT1, hT2, hT3, _⟩ := hT
      replace hT3 := hT3 hd
      obtain ⟨fr0, fr1, fr2⟩ := frozen3v hT3
      obtain ⟨k0, k1, k2⟩ := cells3v hT3
      simp [go_sem, evS, f2, gv, fr0, fr1, fr2, k0, k1, k2]
      exact ⟨fun h => by simpa [sput] using h0 (by simpa [did] using h), fun h => by simpa [sput] using h1 (by simpa [did] using h), fun h => by simpa [sput] using h2 (by simpa [did] using h), fun h => by simpa [sput] using h3 (by simpa [did] using h), fun h e => by have := x4 (by simp [hdep]); simp [did, this] at e, fun h => by simpa [sput] using h5 (by simpa [did] using h), fun h => by simpa [sput] using h6 (by simpa [did] using h), fun h e => by simp [did] at e, fun h e => by simp [did] at e, fun h => by have := x0 (by simpa [did] using h); simp [did, this], fun h => by have := x1 (by simpa [did] using h); simp [did, this], fun h => by have := x2 (by simpa [did] using h); simp [did, this], fun h => by have := x3 (by simpa [did] using h); simp [did, this], fun h => by have := x4 (by simpa [did] using h); simp [did, this], fun _ => by have y8 := x4 (by simp [hdep]); simp [did, hdep, y8], ⟨below3g hT1 (Nat.le_succ z) _ _ _, blk3g hT2 (by omega) _ _ _, fun h => by simp [did] at h, fun _ => ⟨g9, c9, hT3.store3v _ _ _, own3g gO (by omega) _ _ _, gq⟩⟩⟩
  intro d s W hJ hd
  obtain ⟨h0, h1, h2, h3, h4, h5, h6, h7, h8, x0, x1, x2, x3, x4, x5, hT⟩ := hJ
  obtain ⟨hT1, _, _, hT4⟩ := hT
  obtain ⟨g9, c9, hE9, hO9, hg9⟩ := hT4 (hd 9 (by decide))
  have HT1 := Lib.hid hT1
  have HE9 := Lib.hid hE9
  have HO9 := Lib.hid hO9
  clear h0 h1 h2 h3 h4 h5 h6 h7 h8 x0 x1 x2 x3 x4 x5 hd hT4 hT1 hE9 hO9
  simp [setAll]
  generalize s 3 = s3
  generalize s 4 = s4
  generalize s 5 = s5
  generalize s 6 = s6
  generalize s 7 = s7
  generalize s 8 = s8
  generalize s 9 = s9
  generalize s 10 = s10
  generalize s 11 = s11
  obtain ⟨j0, j1, j2⟩ := cells3v HE9.out
  go_wp2_with fail
  exact bodyPost_ret (v := .agg #[.int .i64 (R : Int), .int .i64 (C : Int), .slice (some ⟨g9, 0, none⟩) N c9]) (by simp [results, Try.results43, go_sem, j0, j1, j2]) rfl ⟨g9, c9, rfl, HO9.out, by have := Hz.out; omega, by rw [Hz.out]; exact HT1.out⟩
end Go.Proofs.Ytelpdbkkefpjhaa
