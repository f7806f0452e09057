/-
The document's solution of many right sides. Conditions: as each says.
-/
import Derived.Test.YtcdhpoikppfjkaaWaau
import Derived.Test.YtcdhpoikppfjkaaWaah
import Derived.Test.YtcdhpoikppfjkaaWaas
import Derived.Test.YtcdhpoikppfjkaaWaai
set_option linter.unusedVariables false
set_option linter.unusedSimpArgs false
set_option linter.unnecessarySimpa false
namespace Go.Proofs.Ytcdhpoikppfjkaa
open Go.RowKit
attribute [local go_sem ↓] Go.wp_at_zero Go.wp_at_succ

theorem TrS.agreeT {kd n : Nat} {a a' : Nat → Nat → Nat} {x x' : Nat → Nat} {E : Nat → Nat → Nat} {F : Nat → Nat} (hk : kd = 1 ∨ kd = 2 ∨ kd = 3 ∨ kd = 4) (ha : ∀ p, p < n → ∀ q, q < n → a p q = a' p q) (hx : ∀ p, p < n → x p = x' p) (h : TrS kd n a x E F) : TrS kd n a' x' E F :=
  ⟨fun p hp => by rw [h.zero p hp, hx p hp], fun p hp t ht => by rw [h.step p hp t ht, ha p hp _ (trO_early hk hp ht).1], fun p hp => by rw [h.last p hp, ha p hp p hp]⟩
/-- A list and whether it is solved, as the document's Solve answers. -/
def TuL (W : World) (v : Value) (z R : Nat) (b : Bool) (F : Nat → Nat) : Prop := ∃ g c y, v = .tuple #[.slice (some ⟨g, 0, none⟩) R c, .bool b] ∧ (y.length = R ∧ (b = true → ∀ p, p < R → Is (y.getD p 0) (F p))) ∧ Own W g y ∧ z ≤ g
theorem TuL.below {W W' : World} {v : Value} {z R : Nat} {b : Bool} {F : Nat → Nat} (h : TuL W v z R b F) (hb : Below W.heap.size W W') : TuL W' v z R b F := by
  obtain ⟨g, c, y, h1, h2, h3, h4⟩ := h
  exact ⟨g, c, y, h1, h2, h3.nxt hb, h4⟩
def LiL (W : World) (v : Value) (z R : Nat) (b : Bool) (F : Nat → Nat) : Prop := ∃ g c y, v = .slice (some ⟨g, 0, none⟩) R c ∧ (y.length = R ∧ (b = true → ∀ p, p < R → Is (y.getD p 0) (F p))) ∧ Own W g y ∧ z ≤ g
theorem LiL.below {W W' : World} {v : Value} {z R : Nat} {b : Bool} {F : Nat → Nat} (h : LiL W v z R b F) (hb : Below W.heap.size W W') : LiL W' v z R b F := by
  obtain ⟨g, c, y, h1, h2, h3, h4⟩ := h
  exact ⟨g, c, y, h1, h2, h3.nxt hb, h4⟩
def RoL (W : World) (v : Value) (l : List Nat) (n : Nat) : Prop := ∃ B d, v = .slice B n d ∧ Row W B (f64s l)
theorem RoL.below {W W' : World} {v : Value} {l : List Nat} {n : Nat} (h : RoL W v l n) (hb : Below W.heap.size W W') : RoL W' v l n := by
  obtain ⟨B, d, h1, h2⟩ := h
  exact ⟨B, d, h1, h2.below hb⟩
theorem kpvk {d : Nat → Bool} {i j : Nat} {s : Nat → Value} {k : Nat} {dst : Option Nat} {v x : Value} (h : d j = true → s k = x) (hj : j ≠ i) (hk : dst ≠ some k) : did d i j = true → sput s dst v k = x := fun e => by
  rw [did_ne d hj] at e
  unfold sput
  rw [if_neg hk]
  exact h e
theorem kpwk {d : Nat → Bool} {i j : Nat} {s : Nat → Value} {k : Nat} {dst : Option Nat} {v x : Value} (h : d j = true → s k = x) (hj : j ≠ i := by decide) (hk : dst ≠ some k := by decide) : did d i j = true → sput s dst v k = x := kpvk h hj hk
/-- What the document's Solve of many sides answers. -/
def RsM (R C N : Nat) (b : Bool) (F : Nat → Nat → Nat) (w : World) (e : Ending) (w' : World) : Prop := ∃ g c T', e = .returned (.tuple #[tbl R C g N c, .bool b]) ∧ (T'.length = N ∧ (b = true → ∀ i, i < R → ∀ j, j < C → Is (T'.getD (i * C + j) 0) (F j i))) ∧ Own w' g T' ∧ w.heap.size ≤ g ∧ Below w.heap.size w w'

set_option maxRecDepth 100000 in
set_option maxHeartbeats 4000000 in
theorem rtsm_any (kd : Nat) (hk : kd = 1 ∨ kd = 2) (R C : Nat) (gM NM cM : Nat) (TM : List Nat) (gX N cX : Nat) (TX : List Nat) (E : Nat → Nat → Nat → Nat) (F : Nat → Nat → Nat) (b : Bool) (w : World) (hM : Row w (some ⟨gM, 0, none⟩) (f64s TM)) (hMl : TM.length = NM) (hNM : R * R = NM) (hX : Row w (some ⟨gX, 0, none⟩) (f64s TX)) (hXl : TX.length = N) (hN : R * C = N) (hNb : N < 1048576) (hNMb : NM < 1048576) (hRb : R ≤ 1000) (hCb : C < 1048576) (hWM : Wds TM) (hWX : Wds TX) (hgM : NM ≠ 0 → gM < w.heap.size)
    (hS : ∀ j, j < C → TrS kd R (trV kd (fun i k => TM.getD (i * R + k) 0)) (fun p => TX.getD (p * C + j) 0) (E j) (F j)) (hb : (!trHZ kd (fun i k => TM.getD (i * R + k) 0) R) = b) :
    Calls Try.prog 10 #[.int .i64 (kd : Int), tbl R R gM NM cM, tbl R C gX N cX] w (RsM R C N b F w) := by
  have hk4 : kd = 1 ∨ kd = 2 ∨ kd = 3 ∨ kd = 4 := by rcases hk with h | h <;> simp [h]
  obtain ⟨bb, hbb⟩ : ∃ bb, b = bb := ⟨_, rfl⟩
  rw [hbb] at hb ⊢
  clear hbb b
  obtain ⟨E0, F0, hS0⟩ := trS_exists kd R (trV kd (fun i k => TM.getD (i * R + k) 0)) (fun p => (List.replicate R 0).getD p 0) hk4
  have HCp := Lib.hid (fun W (h : Below w.heap.size w W) => rmcopy_any R C gX N cX TX W (hX.below h) hXl (Nat.le_of_lt hNb))
  have HS00 := Lib.hid (fun g c W (h : Below w.heap.size w W) (hO : Own W g (List.replicate R 0)) => tsboth_any kd hk R gM NM cM TM (some ⟨g, 0, none⟩) c (List.replicate R 0) E0 F0 bb W (hM.below h) hMl hNM hNMb (fun e => Nat.lt_of_lt_of_le (hgM e) h.size) hRb hWM hO.row (by simp) (fun x hx => by rw [List.eq_of_mem_replicate hx]; omega) hS0 hb)
  have HCl0 := Lib.hid (fun j (hj : j < C) W (h : Below w.heap.size w W) => tscol_any R C gX N cX TX j W (hX.below h) hXl hNb hN hj (by omega))
  have HSc0 := Lib.hid (fun j (hj : j < C) B c W (h : Below w.heap.size w W) (hB : Row W B (f64s (lst TX j C R))) => tsboth_any kd hk R gM NM cM TM B c (lst TX j C R) (E j) (F j) bb W (hM.below h) hMl hNM hNMb (fun e => Nat.lt_of_lt_of_le (hgM e) h.size) hRb hWM hB (lst_length _ _ _ _) (tslst_wds hWX _ _ _)
    ((hS j hj).agreeT hk4 (fun _ _ _ _ => rfl) (fun p hp => by rw [lst_getD TX j C hp, Nat.add_comm])) hb)
  have HFa := Lib.hid (fun i j (hi : i < R) (hj : j < C) => tab_facts (R := R) (C := C) (N := N) (i := i) (j := j) hN (Nat.le_of_lt hNb) hi hj)
  have hmk : ∀ W, (Instr.makeSlice 22 (.int .i64 (R : Int)) (.int .i64 (R : Int))).run Try.prog W = .ok (.slice (some ⟨W.heap.size, 0, none⟩) R R) (W.alloc (.cells (f64s (List.replicate R 0)).toArray 43)) := fun W => frun_make R (by omega) W
  have HNb := Lib.hid hNb
  have HXl := Lib.hid hXl
  clear hM hMl hNM hX hXl hN hNb hNMb hWM hWX hgM hS hb hS0 hk hk4
  unfold tbl at *
  go_enter Try.func10, Try.ntmps10
  have HM0 := Lib.hid (((Blk.new w 31 #[.int .i64 (R : Int), .int .i64 (R : Int), .slice (some ⟨gM, 0, none⟩) NM cM]).alloc (.cells #[.int .i64 (R : Int), .int .i64 (C : Int), .slice (some ⟨gX, 0, none⟩) N cX] 31)).alloc (.cells #[.int .i64 0, .int .i64 0, .slice none 0 0] 31))
  have HX0 := Lib.hid ((Blk.new_ (w.alloc (.cells #[.int .i64 (R : Int), .int .i64 (R : Int), .slice (some ⟨gM, 0, none⟩) NM cM] 31)) 31 #[.int .i64 (R : Int), .int .i64 (C : Int), .slice (some ⟨gX, 0, none⟩) N cX] (w.heap.size + 1) (by simp)).alloc (.cells #[.int .i64 0, .int .i64 0, .slice none 0 0] 31))
  have HE0 := Lib.hid (Blk.new_ ((w.alloc (.cells #[.int .i64 (R : Int), .int .i64 (R : Int), .slice (some ⟨gM, 0, none⟩) NM cM] 31)).alloc (.cells #[.int .i64 (R : Int), .int .i64 (C : Int), .slice (some ⟨gX, 0, none⟩) N cX] 31)) 31 #[.int .i64 0, .int .i64 0, .slice none 0 0] (w.heap.size + 1 + 1) (by simp))
  have HB0 := Lib.hid ((((Below.refl w.heap.size w).alloc (Nat.le_refl _) (.cells #[.int .i64 (R : Int), .int .i64 (R : Int), .slice (some ⟨gM, 0, none⟩) NM cM] 31)).alloc (by simp) (.cells #[.int .i64 (R : Int), .int .i64 (C : Int), .slice (some ⟨gX, 0, none⟩) N cX] 31)).alloc (by simp; omega) (.cells #[.int .i64 0, .int .i64 0, .slice none 0 0] 31))
  obtain ⟨x0, x1, x2⟩ := cells3v HX0.out
  go_wp2_with fail
  refine (HCp.out _ HB0.out).mono ?_
  rintro e w1 ⟨go, co, rfl, hO, hg, hb⟩
  have HM1 := Lib.hid ((HM0.out.nxt hb).alloc (.cells #[.int .i64 (R : Int), .int .i64 (C : Int), .slice (some ⟨go, 0, none⟩) N co] 31))
  have HX1 := Lib.hid ((HX0.out.nxt hb).alloc (.cells #[.int .i64 (R : Int), .int .i64 (C : Int), .slice (some ⟨go, 0, none⟩) N co] 31))
  have HE1 := Lib.hid ((HE0.out.nxt hb).alloc (.cells #[.int .i64 (R : Int), .int .i64 (C : Int), .slice (some ⟨go, 0, none⟩) N co] 31))
  have HT1 := Lib.hid (Blk.new w1 31 #[.int .i64 (R : Int), .int .i64 (C : Int), .slice (some ⟨go, 0, none⟩) N co])
  have HO1 := Lib.hid (hO.nxt (below_one (o := (.cells #[.int .i64 (R : Int), .int .i64 (C : Int), .slice (some ⟨go, 0, none⟩) N co] 31))))
  have HB1 := Lib.hid (below_al (below_nx HB0.out hb) (o := (.cells #[.int .i64 (R : Int), .int .i64 (C : Int), .slice (some ⟨go, 0, none⟩) N co] 31)))
  have hgl := hO.lt
  have hsz := hb.size
  have HNe0 := Lib.hid (show w.heap.size + 3 ≤ go ∧ w.heap.size + 3 ≤ w1.heap.size ∧ go < w1.heap.size from ⟨by simp at hg; omega, by simp at hsz; omega, hgl⟩)
  clear hb hO hg hgl hsz x0 x1 x2
  go_upto_region 2 with fail
  generalize hw2 : w1.alloc (.cells #[.int .i64 (R : Int), .int .i64 (C : Int), .slice (some ⟨go, 0, none⟩) N co] 31) = w2 at *
  generalize w1.heap.size = z3 at *
  generalize hz2 : w.heap.size + 1 + 1 = z2 at *
  generalize hz1 : w.heap.size + 1 = z1 at *
  generalize hz0 : w.heap.size = z0 at *
  have Hz := Lib.hid (show w.heap.size = z0 ∧ z1 = z0 + 1 ∧ z2 = z0 + 2 ∧ z0 + 3 ≤ go ∧ z0 + 3 ≤ z3 ∧ go < z3 from by have := HNe0.out; omega)
  have HNX := Lib.hid (fun W W' (h : Below z0 w W) (hb : Below W.heap.size W W') => show Below z0 w W' from by rw [← hz0] at h ⊢; exact below_nx h hb)
  have HM2 := HM1
  have HX2 := HX1
  have HE2 := HE1
  have HT2 := HT1
  have HO2 := HO1
  have HB2 := HB1
  obtain ⟨z9, hz9⟩ : ∃ z9, z9 = w2.heap.size := ⟨_, rfl⟩
  have Hz9 := Lib.hid (Nat.le_of_eq hz9)
  have HS0 := Lib.hid (fun g c W (h : Below w2.heap.size w2 W) hO => HS00.out g c W (HNX.out _ _ HB2.out h) hO)
  clear HM1 HX1 HE1 HT1 HO1 HB1 HM0 HX0 HE0 HB0 HNe0 hw2 hz2 hz1 hz0 hz9 HCp HS00
  refine wp_region_inv [18, 19, 20, 21, 22, 23, 17, 24, 25, 9, 10] (fun d s W => (d 0 = true → s 18 = .int .i64 (kd : Int)) ∧ (d 1 = true → s 19 = .agg #[.int .i64 (R : Int), .int .i64 (R : Int), .slice (some ⟨gM, 0, none⟩) NM cM]) ∧ (d 2 = true → s 20 = .pointer (some ⟨z0, 0, none⟩)) ∧ (d 3 = true → s 21 = .int .i64 (R : Int)) ∧ (d 4 = true → NwL W (s 22) (List.replicate R 0) R) ∧ (d 5 = true → TuL W (s 23) z9 R bb F0) ∧ (d 6 = true → TuL W (s 17) z9 R bb F0) ∧ (d 7 = true → LiL W (s 24) z9 R bb F0) ∧ (d 8 = true → s 25 = .bool bb) ∧ (d 9 = true → LiL W (s 9) z9 R bb F0) ∧ (d 10 = true → s 10 = .bool bb) ∧ Below w2.heap.size w2 W)
    rfl (by kernel_rfl) ?_ ?_ ?_
  · exact ⟨by simp, by simp, by simp, by simp, by simp, by simp, by simp, by simp, by simp, by simp, by simp, (Below.refl _ _).drew⟩
  · refine ⟨?_, ?_, ?_, ?_, ?_, ?_, ?_, ?_, ?_, ?_, ?_, trivial⟩
    all_goals
      intro d s W hJ hfr hd hdep
      simp only [List.mem_cons, forall_eq_or_imp, List.not_mem_nil, false_implies, implies_true, and_true, Region.binds] at hdep
      have f0 := hfr 0 (by decide)
      have f4 := hfr 4 (by decide)
      simp at f0 f4 hdep
      obtain ⟨h0, h1, h2, h3, h4, h5, h6, h7, h8, h9, h10, hT⟩ := hJ
    · as_aux_lemma =>
        unfold OpSteps
        simp [go_sem, evS, f0]
        exact ⟨fun _ => by simp [sput], kpwk h1, kpwk h2, kpwk h3, fun h => by simpa [sput] using h4 (by simpa [did] using h), fun h => by simpa [sput] using h5 (by simpa [did] using h), fun h => by simpa [sput] using h6 (by simpa [did] using h), fun h => by simpa [sput] using h7 (by simpa [did] using h), kpwk h8, fun h => by simpa [sput] using h9 (by simpa [did] using h), kpwk h10, hT⟩
    · as_aux_lemma =>
        unfold OpSteps
        obtain ⟨p0, p1, p2⟩ := cells3v (HM2.out.below hT HM2.out.lt)
        simp [go_sem, evS, f4, p0, p1, p2]
        exact ⟨kpwk h0, fun _ => by simp [sput], kpwk h2, kpwk h3, fun h => by simpa [sput] using h4 (by simpa [did] using h), fun h => by simpa [sput] using h5 (by simpa [did] using h), fun h => by simpa [sput] using h6 (by simpa [did] using h), fun h => by simpa [sput] using h7 (by simpa [did] using h), kpwk h8, fun h => by simpa [sput] using h9 (by simpa [did] using h), kpwk h10, hT⟩
    · as_aux_lemma =>
        unfold OpSteps
        simp [go_sem, evS, f4]
        exact ⟨kpwk h0, kpwk h1, fun _ => by simp [sput], kpwk h3, fun h => by simpa [sput] using h4 (by simpa [did] using h), fun h => by simpa [sput] using h5 (by simpa [did] using h), fun h => by simpa [sput] using h6 (by simpa [did] using h), fun h => by simpa [sput] using h7 (by simpa [did] using h), kpwk h8, fun h => by simpa [sput] using h9 (by simpa [did] using h), kpwk h10, hT⟩
    · as_aux_lemma =>
        have g2 := h2 (by simp [hdep])
        unfold OpSteps
        obtain ⟨p0, p1, p2⟩ := cells3v (HM2.out.below hT HM2.out.lt)
        simp [go_sem, evS, g2, p0, p1, p2]
        exact ⟨kpwk h0, kpwk h1, kpwk h2, fun _ => by simp [sput], fun h => by simpa [sput] using h4 (by simpa [did] using h), fun h => by simpa [sput] using h5 (by simpa [did] using h), fun h => by simpa [sput] using h6 (by simpa [did] using h), fun h => by simpa [sput] using h7 (by simpa [did] using h), kpwk h8, fun h => by simpa [sput] using h9 (by simpa [did] using h), kpwk h10, hT⟩
    · as_aux_lemma =>
        have g3 := h3 (by simp [hdep])
        have g3 := h3 (by simp [hdep])
        unfold OpSteps
        simp [go_sem, evS, g3, g3, hmk]
        exact ⟨kpwk h0, kpwk h1, kpwk h2, kpwk h3, fun _ => ⟨W.heap.size, by simp [sput], own_blk (Blk.new W 43 (f64s (List.replicate R 0)).toArray)⟩, fun h => by simpa [sput] using (h5 (by simpa [did] using h)).below below_one, fun h => by simpa [sput] using (h6 (by simpa [did] using h)).below below_one, fun h => by simpa [sput] using (h7 (by simpa [did] using h)).below below_one, kpwk h8, fun h => by simpa [sput] using (h9 (by simpa [did] using h)).below below_one, kpwk h10, below_al hT⟩
    · as_aux_lemma =>
        have g0 := h0 (by simp [hdep])
        have g1 := h1 (by simp [hdep])
        have g4 := h4 (by simp [hdep])
        unfold OpSteps
        obtain ⟨g9, gv, q2⟩ := g4
        simp [go_sem, evS, g0, g1, gv]
        refine (HS0.out _ _ W hT q2).mono ?_
        rintro e W' ⟨g8, c8, y8, rfl, k1, k2, k3, hb⟩
        refine ⟨_, rfl, ?_⟩
        exact ⟨kpwk h0, kpwk h1, kpwk h2, kpwk h3, fun h => by simpa [sput] using (h4 (by simpa [did] using h)).below hb, fun _ => ⟨g8, c8, y8, by simp [sput], k1, k2, Nat.le_trans (Nat.le_trans Hz9.out hT.size) k3⟩, fun h => by simpa [sput] using (h6 (by simpa [did] using h)).below hb, fun h => by simpa [sput] using (h7 (by simpa [did] using h)).below hb, kpwk h8, fun h => by simpa [sput] using (h9 (by simpa [did] using h)).below hb, kpwk h10, below_nx hT hb⟩
    · as_aux_lemma =>
        have g5 := h5 (by simp [hdep])
        unfold OpSteps
        simp [go_sem, evS, g5]
        exact ⟨kpwk h0, kpwk h1, kpwk h2, kpwk h3, fun h => by simpa [sput] using h4 (by simpa [did] using h), fun h => by simpa [sput] using h5 (by simpa [did] using h), fun _ => by simpa [sput] using g5, fun h => by simpa [sput] using h7 (by simpa [did] using h), kpwk h8, fun h => by simpa [sput] using h9 (by simpa [did] using h), kpwk h10, hT⟩
    · as_aux_lemma =>
        have g6 := h6 (by simp [hdep])
        unfold OpSteps
        obtain ⟨g9, c9, y9, gv, q1, q2, q3⟩ := g6
        simp [go_sem, evS, gv]
        exact ⟨kpwk h0, kpwk h1, kpwk h2, kpwk h3, fun h => by simpa [sput] using h4 (by simpa [did] using h), fun h => by simpa [sput] using h5 (by simpa [did] using h), fun h => by simpa [sput] using h6 (by simpa [did] using h), fun _ => ⟨g9, c9, y9, by simp [sput], q1, q2, q3⟩, kpwk h8, fun h => by simpa [sput] using h9 (by simpa [did] using h), kpwk h10, hT⟩
    · as_aux_lemma =>
        have g6 := h6 (by simp [hdep])
        unfold OpSteps
        obtain ⟨g9, c9, y9, gv, q1, q2, q3⟩ := g6
        simp [go_sem, evS, gv]
        exact ⟨kpwk h0, kpwk h1, kpwk h2, kpwk h3, fun h => by simpa [sput] using h4 (by simpa [did] using h), fun h => by simpa [sput] using h5 (by simpa [did] using h), fun h => by simpa [sput] using h6 (by simpa [did] using h), fun h => by simpa [sput] using h7 (by simpa [did] using h), fun _ => by simp [sput], fun h => by simpa [sput] using h9 (by simpa [did] using h), kpwk h10, hT⟩
    · as_aux_lemma =>
        have g7 := h7 (by simp [hdep])
        unfold OpSteps
        simp [go_sem, evS, g7]
        exact ⟨kpwk h0, kpwk h1, kpwk h2, kpwk h3, fun h => by simpa [sput] using h4 (by simpa [did] using h), fun h => by simpa [sput] using h5 (by simpa [did] using h), fun h => by simpa [sput] using h6 (by simpa [did] using h), fun h => by simpa [sput] using h7 (by simpa [did] using h), kpwk h8, fun _ => by simpa [sput] using g7, kpwk h10, hT⟩
    · as_aux_lemma =>
        have g8 := h8 (by simp [hdep])
        unfold OpSteps
        simp [go_sem, evS, g8]
        exact ⟨kpwk h0, kpwk h1, kpwk h2, kpwk h3, fun h => by simpa [sput] using h4 (by simpa [did] using h), fun h => by simpa [sput] using h5 (by simpa [did] using h), fun h => by simpa [sput] using h6 (by simpa [did] using h), fun h => by simpa [sput] using h7 (by simpa [did] using h), kpwk h8, fun h => by simpa [sput] using h9 (by simpa [did] using h), fun _ => by simp [sput], hT⟩
  intro d s W hJ hd
  obtain ⟨h0, h1, h2, h3, h4, h5, h6, h7, h8, h9, h10, hT⟩ := hJ
  have hs10 := h10 (hd 10 (by decide))
  have HB3 := Lib.hid (HNX.out _ _ HB2.out hT)
  have HM3 := Lib.hid (HM2.out.nxt hT)
  have HX3 := Lib.hid (HX2.out.nxt hT)
  have HE3 := Lib.hid (HE2.out.nxt hT)
  have HT3 := Lib.hid (HT2.out.nxt hT)
  have HO3 := Lib.hid (HO2.out.nxt hT)
  clear h0 h1 h2 h3 h4 h5 h6 h7 h8 h9 h10 hT hd
  simp [setAll, hs10]
  clear hs10
  generalize s 18 = s18
  generalize s 19 = s19
  generalize s 20 = s20
  generalize s 21 = s21
  generalize s 22 = s22
  generalize s 23 = s23
  generalize s 17 = s17
  generalize s 24 = s24
  generalize s 25 = s25
  generalize s 9 = s9
  generalize W = w3 at *
  clear HM2 HX2 HE2 HT2 HO2 HB2 HS0 hmk
  go_wp2_with fail
  go_loopw [11] (fun v wr => ∃ j : Nat, j ≤ C ∧ v = .int .i64 (j : Int) ∧ Hid (∃ T1, Ptb N (fun j i => i * C + j) C R (fun j i r => bb = true → Is r (F j i)) j 0 T1 ∧ Own wr go T1 ∧ Blk wr z0 31 #[.int .i64 (R : Int), .int .i64 (R : Int), .slice (some ⟨gM, 0, none⟩) NM cM] ∧ Blk wr z1 31 #[.int .i64 (R : Int), .int .i64 (C : Int), .slice (some ⟨gX, 0, none⟩) N cX] ∧ Blk wr z2 31 #[.int .i64 0, .int .i64 0, .slice none 0 0] ∧ Blk wr z3 31 #[.int .i64 (R : Int), .int .i64 (C : Int), .slice (some ⟨go, 0, none⟩) N co] ∧ Below z0 w wr)) (fun v _ => C - (intOf v).toNat)
  case atStart => exact ⟨0, Nat.zero_le _, rfl, Lib.hid ⟨TX, Ptb.zero HXl.out, HO3.out, HM3.out, HX3.out, HE3.out, HT3.out, HB3.out⟩⟩
  case round =>
    clear HM3 HX3 HE3 HT3 HO3 HB3
    obtain ⟨j, hj, rfl, HS⟩ := hrel
    have HX4 := Lib.hid (show Blk wr z1 31 #[.int .i64 (R : Int), .int .i64 (C : Int), .slice (some ⟨gX, 0, none⟩) N cX] from by obtain ⟨T1, _, _, _, h, _⟩ := HS.out; exact h)
    obtain ⟨x0, x1, x2⟩ := cells3v HX4.out
    by_cases hlt : j < C
    · have hjc : (j : Int) < (C : Int) := by omega
      have hj1 : j + 1 ≤ 1048576 := by omega
      have Hj := Lib.hid hlt
      have HBw0 := Lib.hid (show Below z0 w wr from by obtain ⟨T1, _, _, _, _, _, _, h⟩ := HS.out; exact h)
      have HM4 := Lib.hid (show Blk wr z0 31 #[.int .i64 (R : Int), .int .i64 (R : Int), .slice (some ⟨gM, 0, none⟩) NM cM] from by obtain ⟨T1, _, _, h, _⟩ := HS.out; exact h)
      have HCl := Lib.hid (fun W (h : Below wr.heap.size wr W) => HCl0.out j hlt W (HNX.out _ _ HBw0.out h))
      have HSc := Lib.hid (fun B c W (h : Below wr.heap.size wr W) hB => HSc0.out j hlt B c W (HNX.out _ _ HBw0.out h) hB)
      obtain ⟨LX, hLX⟩ : ∃ LX, lst TX j C R = LX := ⟨_, rfl⟩
      obtain ⟨FJ, hFJ⟩ : ∃ FJ, F j = FJ := ⟨_, rfl⟩
      rw [hLX] at HCl HSc
      rw [hFJ] at HSc
      have HFJ := Lib.hid hFJ
      obtain ⟨z9, hz9⟩ : ∃ z9, z9 = wr.heap.size := ⟨_, rfl⟩
      have Hz9 := Lib.hid (show z9 ≤ wr.heap.size from by omega)
      have Hzz := Lib.hid (show go < z9 ∧ z3 < z9 from by
        obtain ⟨T1, _, h1, _, _, _, h2, _⟩ := HS.out
        have := h1.lt; have := h2.lt; omega)
      clear hLX hFJ hz9
      go_wp2_with fail
      clear x0 x1 x2
      refine wp_region_inv [33, 34, 35, 36, 37, 38, 32, 39, 40, 12, 13] (fun d s W => (d 0 = true → s 33 = .int .i64 (kd : Int)) ∧ (d 1 = true → s 34 = .agg #[.int .i64 (R : Int), .int .i64 (R : Int), .slice (some ⟨gM, 0, none⟩) NM cM]) ∧ (d 2 = true → s 35 = .agg #[.int .i64 (R : Int), .int .i64 (C : Int), .slice (some ⟨gX, 0, none⟩) N cX]) ∧ (d 3 = true → s 36 = .int .i64 (j : Int)) ∧ (d 4 = true → RoL W (s 37) LX R) ∧ (d 5 = true → TuL W (s 38) z9 R bb FJ) ∧ (d 6 = true → TuL W (s 32) z9 R bb FJ) ∧ (d 7 = true → LiL W (s 39) z9 R bb FJ) ∧ (d 8 = true → s 40 = .bool bb) ∧ (d 9 = true → LiL W (s 12) z9 R bb FJ) ∧ (d 10 = true → s 13 = .bool bb) ∧ Below wr.heap.size wr W)
        rfl (by kernel_rfl) ?_ ?_ ?_
      · exact ⟨by simp, by simp, by simp, by simp, by simp, by simp, by simp, by simp, by simp, by simp, by simp, (Below.refl _ _).drew⟩
      · refine ⟨?_, ?_, ?_, ?_, ?_, ?_, ?_, ?_, ?_, ?_, ?_, trivial⟩
        all_goals
          intro d s W hJ hfr hd hdep
          simp only [List.mem_cons, forall_eq_or_imp, List.not_mem_nil, false_implies, implies_true, and_true, Region.binds] at hdep
          have f0 := hfr 0 (by decide)
          have f4 := hfr 4 (by decide)
          have f5 := hfr 5 (by decide)
          have f11 := hfr 11 (by decide)
          simp at f0 f4 f5 f11 hdep
          obtain ⟨h0, h1, h2, h3, h4, h5, h6, h7, h8, h9, h10, hT⟩ := hJ
        · as_aux_lemma =>
            unfold OpSteps
            simp [go_sem, evS, f0]
            exact ⟨fun _ => by simp [sput], kpwk h1, kpwk h2, kpwk h3, fun h => by simpa [sput] using h4 (by simpa [did] using h), fun h => by simpa [sput] using h5 (by simpa [did] using h), fun h => by simpa [sput] using h6 (by simpa [did] using h), fun h => by simpa [sput] using h7 (by simpa [did] using h), kpwk h8, fun h => by simpa [sput] using h9 (by simpa [did] using h), kpwk h10, hT⟩
        · as_aux_lemma =>
            unfold OpSteps
            obtain ⟨p0, p1, p2⟩ := cells3v (HM4.out.below hT HM4.out.lt)
            simp [go_sem, evS, f4, p0, p1, p2]
            exact ⟨kpwk h0, fun _ => by simp [sput], kpwk h2, kpwk h3, fun h => by simpa [sput] using h4 (by simpa [did] using h), fun h => by simpa [sput] using h5 (by simpa [did] using h), fun h => by simpa [sput] using h6 (by simpa [did] using h), fun h => by simpa [sput] using h7 (by simpa [did] using h), kpwk h8, fun h => by simpa [sput] using h9 (by simpa [did] using h), kpwk h10, hT⟩
        · as_aux_lemma =>
            unfold OpSteps
            obtain ⟨p0, p1, p2⟩ := cells3v (HX4.out.below hT HX4.out.lt)
            simp [go_sem, evS, f5, p0, p1, p2]
            exact ⟨kpwk h0, kpwk h1, fun _ => by simp [sput], kpwk h3, fun h => by simpa [sput] using h4 (by simpa [did] using h), fun h => by simpa [sput] using h5 (by simpa [did] using h), fun h => by simpa [sput] using h6 (by simpa [did] using h), fun h => by simpa [sput] using h7 (by simpa [did] using h), kpwk h8, fun h => by simpa [sput] using h9 (by simpa [did] using h), kpwk h10, hT⟩
        · as_aux_lemma =>
            unfold OpSteps
            simp [go_sem, evS, f11]
            exact ⟨kpwk h0, kpwk h1, kpwk h2, fun _ => by simp [sput], fun h => by simpa [sput] using h4 (by simpa [did] using h), fun h => by simpa [sput] using h5 (by simpa [did] using h), fun h => by simpa [sput] using h6 (by simpa [did] using h), fun h => by simpa [sput] using h7 (by simpa [did] using h), kpwk h8, fun h => by simpa [sput] using h9 (by simpa [did] using h), kpwk h10, hT⟩
        · as_aux_lemma =>
            have g2 := h2 (by simp [hdep])
            have g3 := h3 (by simp [hdep])
            unfold OpSteps
            simp [go_sem, evS, g2, g3]
            refine (HCl.out W hT).mono ?_
            rintro e W' ⟨B8, d8, rfl, k1, hb⟩
            refine ⟨_, rfl, ?_⟩
            exact ⟨kpwk h0, kpwk h1, kpwk h2, kpwk h3, fun _ => ⟨B8, d8, by simp [sput], k1⟩, fun h => by simpa [sput] using (h5 (by simpa [did] using h)).below hb, fun h => by simpa [sput] using (h6 (by simpa [did] using h)).below hb, fun h => by simpa [sput] using (h7 (by simpa [did] using h)).below hb, kpwk h8, fun h => by simpa [sput] using (h9 (by simpa [did] using h)).below hb, kpwk h10, below_nx hT hb⟩
        · as_aux_lemma =>
            have g0 := h0 (by simp [hdep])
            have g1 := h1 (by simp [hdep])
            have g4 := h4 (by simp [hdep])
            unfold OpSteps
            obtain ⟨B9, d9, gv, q2⟩ := g4
            simp [go_sem, evS, g0, g1, gv]
            refine (HSc.out _ _ W hT q2).mono ?_
            rintro e W' ⟨g8, c8, y8, rfl, k1, k2, k3, hb⟩
            refine ⟨_, rfl, ?_⟩
            exact ⟨kpwk h0, kpwk h1, kpwk h2, kpwk h3, fun h => by simpa [sput] using (h4 (by simpa [did] using h)).below hb, fun _ => ⟨g8, c8, y8, by simp [sput], k1, k2, Nat.le_trans (Nat.le_trans Hz9.out hT.size) k3⟩, fun h => by simpa [sput] using (h6 (by simpa [did] using h)).below hb, fun h => by simpa [sput] using (h7 (by simpa [did] using h)).below hb, kpwk h8, fun h => by simpa [sput] using (h9 (by simpa [did] using h)).below hb, kpwk h10, below_nx hT hb⟩
        · as_aux_lemma =>
            have g5 := h5 (by simp [hdep])
            unfold OpSteps
            simp [go_sem, evS, g5]
            exact ⟨kpwk h0, kpwk h1, kpwk h2, kpwk h3, fun h => by simpa [sput] using h4 (by simpa [did] using h), fun h => by simpa [sput] using h5 (by simpa [did] using h), fun _ => by simpa [sput] using g5, fun h => by simpa [sput] using h7 (by simpa [did] using h), kpwk h8, fun h => by simpa [sput] using h9 (by simpa [did] using h), kpwk h10, hT⟩
        · as_aux_lemma =>
            have g6 := h6 (by simp [hdep])
            unfold OpSteps
            obtain ⟨g9, c9, y9, gv, q1, q2, q3⟩ := g6
            simp [go_sem, evS, gv]
            exact ⟨kpwk h0, kpwk h1, kpwk h2, kpwk h3, fun h => by simpa [sput] using h4 (by simpa [did] using h), fun h => by simpa [sput] using h5 (by simpa [did] using h), fun h => by simpa [sput] using h6 (by simpa [did] using h), fun _ => ⟨g9, c9, y9, by simp [sput], q1, q2, q3⟩, kpwk h8, fun h => by simpa [sput] using h9 (by simpa [did] using h), kpwk h10, hT⟩
        · as_aux_lemma =>
            have g6 := h6 (by simp [hdep])
            unfold OpSteps
            obtain ⟨g9, c9, y9, gv, q1, q2, q3⟩ := g6
            simp [go_sem, evS, gv]
            exact ⟨kpwk h0, kpwk h1, kpwk h2, kpwk h3, fun h => by simpa [sput] using h4 (by simpa [did] using h), fun h => by simpa [sput] using h5 (by simpa [did] using h), fun h => by simpa [sput] using h6 (by simpa [did] using h), fun h => by simpa [sput] using h7 (by simpa [did] using h), fun _ => by simp [sput], fun h => by simpa [sput] using h9 (by simpa [did] using h), kpwk h10, hT⟩
        · as_aux_lemma =>
            have g7 := h7 (by simp [hdep])
            unfold OpSteps
            simp [go_sem, evS, g7]
            exact ⟨kpwk h0, kpwk h1, kpwk h2, kpwk h3, fun h => by simpa [sput] using h4 (by simpa [did] using h), fun h => by simpa [sput] using h5 (by simpa [did] using h), fun h => by simpa [sput] using h6 (by simpa [did] using h), fun h => by simpa [sput] using h7 (by simpa [did] using h), kpwk h8, fun _ => by simpa [sput] using g7, kpwk h10, hT⟩
        · as_aux_lemma =>
            have g8 := h8 (by simp [hdep])
            unfold OpSteps
            simp [go_sem, evS, g8]
            exact ⟨kpwk h0, kpwk h1, kpwk h2, kpwk h3, fun h => by simpa [sput] using h4 (by simpa [did] using h), fun h => by simpa [sput] using h5 (by simpa [did] using h), fun h => by simpa [sput] using h6 (by simpa [did] using h), fun h => by simpa [sput] using h7 (by simpa [did] using h), kpwk h8, fun h => by simpa [sput] using h9 (by simpa [did] using h), fun _ => by simp [sput], hT⟩
      intro d s W hJ hd
      obtain ⟨h0, h1, h2, h3, h4, h5, h6, h7, h8, h9, h10, hT⟩ := hJ
      obtain ⟨gl, cl, yl, hs12, hy1, hy2, hy3⟩ := h9 (hd 9 (by decide))
      have HY := Lib.hid hy1
      have HYO := Lib.hid hy2
      have HYz := Lib.hid hy3
      have HBw := Lib.hid hT
      clear h0 h1 h2 h3 h4 h5 h6 h7 h8 h9 h10 hT hd hy1 hy2 hy3
      simp [setAll, hs12]
      clear hs12
      generalize s 33 = s33
      generalize s 34 = s34
      generalize s 35 = s35
      generalize s 36 = s36
      generalize s 37 = s37
      generalize s 38 = s38
      generalize s 32 = s32
      generalize s 39 = s39
      generalize s 40 = s40
      generalize s 13 = s13
      generalize W = w4 at *
      have HS2 := Lib.hid (show ∃ T1, Ptb N (fun j i => i * C + j) C R (fun j i r => bb = true → Is r (F j i)) j 0 T1 ∧ Own w4 go T1 ∧ Blk w4 z0 31 #[.int .i64 (R : Int), .int .i64 (R : Int), .slice (some ⟨gM, 0, none⟩) NM cM] ∧ Blk w4 z1 31 #[.int .i64 (R : Int), .int .i64 (C : Int), .slice (some ⟨gX, 0, none⟩) N cX] ∧ Blk w4 z2 31 #[.int .i64 0, .int .i64 0, .slice none 0 0] ∧ Blk w4 z3 31 #[.int .i64 (R : Int), .int .i64 (C : Int), .slice (some ⟨go, 0, none⟩) N co] ∧ Below z0 w w4 from by
        obtain ⟨T1, q1, q2, q3, q4, q5, q6, q7⟩ := HS.out
        exact ⟨T1, q1, q2.nxt HBw.out, q3.nxt HBw.out, q4.nxt HBw.out, q5.nxt HBw.out, q6.nxt HBw.out, HNX.out _ _ q7 HBw.out⟩)
      clear HS HX4 HM4 HCl HSc HBw HBw0
      go_wp2_with fail
      go_loopw [14] (fun v wr => ∃ i : Nat, i ≤ R ∧ v = .int .i64 (i : Int) ∧ Hid ((∃ T1, Ptb N (fun j i => i * C + j) C R (fun j i r => bb = true → Is r (F j i)) j i T1 ∧ Own wr go T1 ∧ Blk wr z0 31 #[.int .i64 (R : Int), .int .i64 (R : Int), .slice (some ⟨gM, 0, none⟩) NM cM] ∧ Blk wr z1 31 #[.int .i64 (R : Int), .int .i64 (C : Int), .slice (some ⟨gX, 0, none⟩) N cX] ∧ Blk wr z2 31 #[.int .i64 0, .int .i64 0, .slice none 0 0] ∧ Blk wr z3 31 #[.int .i64 (R : Int), .int .i64 (C : Int), .slice (some ⟨go, 0, none⟩) N co] ∧ Below z0 w wr) ∧ Own wr gl yl)) (fun v _ => R - (intOf v).toNat)
      case atStart => exact ⟨0, Nat.zero_le _, rfl, Lib.hid ⟨HS2.out, HYO.out⟩⟩
      case round =>
        clear HS2
        obtain ⟨i, hi, rfl, HI⟩ := hrel
        have HX5 := Lib.hid (show Blk wr z1 31 #[.int .i64 (R : Int), .int .i64 (C : Int), .slice (some ⟨gX, 0, none⟩) N cX] from by obtain ⟨T1, _, _, _, h, _⟩ := HI.out.1; exact h)
        obtain ⟨x0, x1, x2⟩ := cells3v HX5.out
        by_cases hli : i < R
        · have hic : (i : Int) < (R : Int) := by omega
          have hi1 : i + 1 ≤ 1048576 := by omega
          have bq1 : i < R := hli
          have HT5 := Lib.hid (show Blk wr z3 31 #[.int .i64 (R : Int), .int .i64 (C : Int), .slice (some ⟨go, 0, none⟩) N co] from by obtain ⟨T1, _, _, _, _, _, h, _⟩ := HI.out.1; exact h)
          have hyc := HI.out.2.get i (by rw [HY.out.1]; exact hli)
          rw [← getD_of_lt (by rw [HY.out.1]; exact hli)] at hyc
          obtain ⟨v, hv⟩ : ∃ v, yl.getD i 0 = v := ⟨_, rfl⟩
          rw [hv] at hyc
          have HYc := Lib.hid hyc
          have HVi := Lib.hid (show bb = true → Is v (F j i) from fun e => by rw [← hv, HFJ.out]; exact HY.out.2 e i hli)
          obtain ⟨QQ, hQQ⟩ : ∃ QQ : World → Prop, QQ = fun W => (∃ T1, Ptb N (fun j i => i * C + j) C R (fun j i r => bb = true → Is r (F j i)) j (i + 1) T1 ∧ Own W go T1 ∧ Blk W z0 31 #[.int .i64 (R : Int), .int .i64 (R : Int), .slice (some ⟨gM, 0, none⟩) NM cM] ∧ Blk W z1 31 #[.int .i64 (R : Int), .int .i64 (C : Int), .slice (some ⟨gX, 0, none⟩) N cX] ∧ Blk W z2 31 #[.int .i64 0, .int .i64 0, .slice none 0 0] ∧ Blk W z3 31 #[.int .i64 (R : Int), .int .i64 (C : Int), .slice (some ⟨go, 0, none⟩) N co] ∧ Below z0 w W) ∧ Own W gl yl := ⟨_, rfl⟩
          have HNx := Lib.hid (show ∀ W, QQ W → Hid ((∃ T1, Ptb N (fun j i => i * C + j) C R (fun j i r => bb = true → Is r (F j i)) j (i + 1) T1 ∧ Own W go T1 ∧ Blk W z0 31 #[.int .i64 (R : Int), .int .i64 (R : Int), .slice (some ⟨gM, 0, none⟩) NM cM] ∧ Blk W z1 31 #[.int .i64 (R : Int), .int .i64 (C : Int), .slice (some ⟨gX, 0, none⟩) N cX] ∧ Blk W z2 31 #[.int .i64 0, .int .i64 0, .slice none 0 0] ∧ Blk W z3 31 #[.int .i64 (R : Int), .int .i64 (C : Int), .slice (some ⟨go, 0, none⟩) N co] ∧ Below z0 w W) ∧ Own W gl yl) from fun W h => Lib.hid (by rw [hQQ] at h; exact h))
          have HSt := Lib.hid (fun W (h : Below wr.heap.size wr W) => show Calls Try.prog 25 #[.agg #[.int .i64 (R : Int), .int .i64 (C : Int), .slice (some ⟨go, 0, none⟩) N co], .int .i64 (i : Int), .int .i64 (j : Int), .float .f64 v] W fun e w' => e = .returned (.tuple #[]) ∧ QQ w' from by
            obtain ⟨⟨T1, q1, q2, q3, q4, q5, q6, q7⟩, q8⟩ := HI.out
            have hf := HFa.out i j hli Hj.out
            refine (rset_own (R : Int) (C : Int) go N co T1 i j (i * C + j) v W (q2.nxt h) q1.1 hf.1 (by have := HNb.out; omega) hf.2.2 hf.2.1).mono ?_
            rintro e w' ⟨e1, h1, h2⟩
            have hz := Hz.out
            have hzz := Hzz.out
            have hlg : gl ≠ go := by have := HYz.out; omega
            refine ⟨e1, ?_⟩
            rw [hQQ]
            refine ⟨⟨_, q1.step (fun a ha b hb e => (tab_injg ha Hj.out e).symm) hf.1 HVi.out, h1, h2.blk (by omega) (q3.nxt h), h2.blk (by omega) (q4.nxt h), h2.blk (by omega) (q5.nxt h), h2.blk (by omega) (q6.nxt h), ?_⟩, (q8.nxt h).only h2 hlg⟩
            have hB := HNX.out _ _ q7 h
            exact ⟨h2.os.trans hB.os, h2.tape.trans hB.tape, h2.output.trans hB.output, Nat.le_trans hB.size h2.size, fun k hk => (h2.block k (by have := hB.size; omega) (fun e => by injection e with e; omega)).trans (hB.block k hk)⟩)
          clear hyc hv hQQ HI HX5
          go_wp2_with fail
          clear x0 x1 x2
          refine wp_region_inv [47, 48, 49, 50, 51, 52, 53, 54] (fun d s W => (d 0 = true → s 47 = .agg #[.int .i64 (R : Int), .int .i64 (C : Int), .slice (some ⟨go, 0, none⟩) N co]) ∧ (d 1 = true → s 48 = .int .i64 (i : Int)) ∧ (d 2 = true → s 49 = .int .i64 (j : Int)) ∧ (d 3 = true → s 50 = .slice (some ⟨gl, 0, none⟩) R cl) ∧ (d 4 = true → s 51 = .int .i64 (i : Int)) ∧ (d 5 = true → s 52 = .pointer (some ⟨gl, i, none⟩)) ∧ (d 6 = true → s 53 = .float .f64 v) ∧ (d 7 = true → s 54 = .tuple #[]) ∧ (d 5 = true → d 3 = true ∧ d 4 = true) ∧ (d 6 = true → d 3 = true ∧ d 4 = true ∧ d 5 = true) ∧ (d 7 = true → d 0 = true ∧ d 1 = true ∧ d 2 = true ∧ d 3 = true ∧ d 4 = true ∧ d 5 = true ∧ d 6 = true) ∧ ((d 7 = false → Below wr.heap.size wr W) ∧ (d 7 = true → QQ W)))
            rfl (by kernel_rfl) ?_ ?_ ?_
          · exact ⟨by simp, by simp, by simp, by simp, by simp, by simp, by simp, by simp, by simp, by simp, by simp, ⟨fun _ => (Below.refl _ _).drew, fun h => by simp at h⟩⟩
          · refine ⟨?_, ?_, ?_, ?_, ?_, ?_, ?_, ?_, trivial⟩
            all_goals
              intro d s W hJ hfr hd hdep
              simp only [List.mem_cons, forall_eq_or_imp, List.not_mem_nil, false_implies, implies_true, and_true, Region.binds] at hdep
              have f8 := hfr 8 (by decide)
              have f11 := hfr 11 (by decide)
              have f12 := hfr 12 (by decide)
              have f14 := hfr 14 (by decide)
              simp at f8 f11 f12 f14 hdep
              obtain ⟨h0, h1, h2, h3, h4, h5, h6, h7, x0, x1, x2, hT⟩ := hJ
            · as_aux_lemma =>
                have hl : d 7 = false := by
                  cases h : d 7
                  · rfl
                  · have := x2 h; simp [hd] at this
                replace hT := hT.1 hl
                unfold OpSteps
                obtain ⟨p0, p1, p2⟩ := cells3v (HT5.out.below hT HT5.out.lt)
                simp [go_sem, evS, f8, p0, p1, p2]
                exact ⟨fun _ => by simp [sput], kpwk h1, kpwk h2, kpwk h3, kpwk h4, kpwk h5, kpwk h6, kpwk h7, fun h => by have := x0 (by simpa [did] using h); simp [did, this], fun h => by have := x1 (by simpa [did] using h); simp [did, this], fun h => by have := x2 (by simpa [did] using h); simp [did, this], ⟨fun _ => hT, fun h => by simp [did, hl] at h⟩⟩
            · as_aux_lemma =>
                have hl : d 7 = false := by
                  cases h : d 7
                  · rfl
                  · have := x2 h; simp [hd] at this
                replace hT := hT.1 hl
                unfold OpSteps
                simp [go_sem, evS, f14]
                exact ⟨kpwk h0, fun _ => by simp [sput], kpwk h2, kpwk h3, kpwk h4, kpwk h5, kpwk h6, kpwk h7, fun h => by have := x0 (by simpa [did] using h); simp [did, this], fun h => by have := x1 (by simpa [did] using h); simp [did, this], fun h => by have := x2 (by simpa [did] using h); simp [did, this], ⟨fun _ => hT, fun h => by simp [did, hl] at h⟩⟩
            · as_aux_lemma =>
                have hl : d 7 = false := by
                  cases h : d 7
                  · rfl
                  · have := x2 h; simp [hd] at this
                replace hT := hT.1 hl
                unfold OpSteps
                simp [go_sem, evS, f11]
                exact ⟨kpwk h0, kpwk h1, fun _ => by simp [sput], kpwk h3, kpwk h4, kpwk h5, kpwk h6, kpwk h7, fun h => by have := x0 (by simpa [did] using h); simp [did, this], fun h => by have := x1 (by simpa [did] using h); simp [did, this], fun h => by have := x2 (by simpa [did] using h); simp [did, this], ⟨fun _ => hT, fun h => by simp [did, hl] at h⟩⟩
            · as_aux_lemma =>
                have hl : d 7 = false := by
                  cases h : d 7
                  · rfl
                  · have := x2 h; simp [hd] at this
                replace hT := hT.1 hl
                unfold OpSteps
                simp [go_sem, evS, f12]
                exact ⟨kpwk h0, kpwk h1, kpwk h2, fun _ => by simp [sput], kpwk h4, kpwk h5, kpwk h6, kpwk h7, fun h => by have := x0 (by simpa [did] using h); simp [did, this], fun h => by have := x1 (by simpa [did] using h); simp [did, this], fun h => by have := x2 (by simpa [did] using h); simp [did, this], ⟨fun _ => hT, fun h => by simp [did, hl] at h⟩⟩
            · as_aux_lemma =>
                have hl : d 7 = false := by
                  cases h : d 7
                  · rfl
                  · have := x2 h; simp [hd] at this
                replace hT := hT.1 hl
                unfold OpSteps
                simp [go_sem, evS, f14]
                exact ⟨kpwk h0, kpwk h1, kpwk h2, kpwk h3, fun _ => by simp [sput], kpwk h5, kpwk h6, kpwk h7, fun h => by have := x0 (by simpa [did] using h); simp [did, this], fun h => by have := x1 (by simpa [did] using h); simp [did, this], fun h => by have := x2 (by simpa [did] using h); simp [did, this], ⟨fun _ => hT, fun h => by simp [did, hl] at h⟩⟩
            · as_aux_lemma =>
                have hl : d 7 = false := by
                  cases h : d 7
                  · rfl
                  · have := x2 h; simp [hd] at this
                replace hT := hT.1 hl
                have g3 := h3 (by simp [hdep])
                have g4 := h4 (by simp [hdep])
                unfold OpSteps
                simp [go_sem, evS, g3, g4, bq1]
                exact ⟨kpwk h0, kpwk h1, kpwk h2, kpwk h3, kpwk h4, fun _ => by simp [sput], kpwk h6, kpwk h7, fun _ => by simp [did, hdep], fun h => by have := x1 (by simpa [did] using h); simp [did, this], fun h => by have := x2 (by simpa [did] using h); simp [did, this], ⟨fun _ => hT, fun h => by simp [did, hl] at h⟩⟩
            · as_aux_lemma =>
                have hl : d 7 = false := by
                  cases h : d 7
                  · rfl
                  · have := x2 h; simp [hd] at this
                replace hT := hT.1 hl
                have g5 := h5 (by simp [hdep])
                unfold OpSteps
                have pc := cell_below HYc.out hT
                simp [go_sem, evS, g5, pc]
                exact ⟨kpwk h0, kpwk h1, kpwk h2, kpwk h3, kpwk h4, kpwk h5, fun _ => by simp [sput], kpwk h7, fun h => by have := x0 (by simpa [did] using h); simp [did, this], fun _ => by have y5 := x0 (by simp [hdep]); simp [did, hdep, y5], fun h => by have := x2 (by simpa [did] using h); simp [did, this], ⟨fun _ => hT, fun h => by simp [did, hl] at h⟩⟩
            · as_aux_lemma =>
                have g0 := h0 (by simp [hdep])
                have g1 := h1 (by simp [hdep])
                have g2 := h2 (by simp [hdep])
                have g6 := h6 (by simp [hdep])
                unfold OpSteps
                have hT0 := hT.1 hd
                simp [go_sem, evS, g0, g1, g2, g6]
                refine (HSt.out W hT0).mono ?_
                rintro e W' ⟨rfl, hD9⟩
                refine ⟨_, rfl, ?_⟩
                exact ⟨kpwk h0, kpwk h1, kpwk h2, kpwk h3, kpwk h4, kpwk h5, kpwk h6, fun _ => by simp [sput], fun h => by have := x0 (by simpa [did] using h); simp [did, this], fun h => by have := x1 (by simpa [did] using h); simp [did, this], fun _ => by have y6 := x1 (by simp [hdep]); simp [did, hdep, y6], ⟨fun h => by simp [did] at h, fun _ => hD9⟩⟩
          intro d s W hJ hd
          obtain ⟨h0, h1, h2, h3, h4, h5, h6, h7, x0, x1, x2, hT⟩ := hJ
          have HQ9 := Lib.hid (hT.2 (hd 7 (by decide)))
          clear h0 h1 h2 h3 h4 h5 h6 h7 x0 x1 x2 hT hd
          simp [setAll]
          generalize s 47 = s47
          generalize s 48 = s48
          generalize s 49 = s49
          generalize s 50 = s50
          generalize s 51 = s51
          generalize s 52 = s52
          generalize s 53 = s53
          generalize s 54 = s54
          generalize W = w9 at *
          go_wp2_with fail
          go_roundw
          case rel => exact ⟨i + 1, by omega, by go_num, HNx.out w9 HQ9.out⟩
          case measure => simp [intOf]; omega
        · obtain rfl : R = i := by omega
          have hic : ¬ (R : Int) < (R : Int) := by omega
          have HE := Lib.hid (show ∃ T1, Ptb N (fun j i => i * C + j) C R (fun j i r => bb = true → Is r (F j i)) (j + 1) 0 T1 ∧ Own wr go T1 ∧ Blk wr z0 31 #[.int .i64 (R : Int), .int .i64 (R : Int), .slice (some ⟨gM, 0, none⟩) NM cM] ∧ Blk wr z1 31 #[.int .i64 (R : Int), .int .i64 (C : Int), .slice (some ⟨gX, 0, none⟩) N cX] ∧ Blk wr z2 31 #[.int .i64 0, .int .i64 0, .slice none 0 0] ∧ Blk wr z3 31 #[.int .i64 (R : Int), .int .i64 (C : Int), .slice (some ⟨go, 0, none⟩) N co] ∧ Below z0 w wr from by
            obtain ⟨⟨T1, q1, q2⟩, _⟩ := HI.out
            exact ⟨T1, q1.next, q2⟩)
          clear HI
          go_wp2_with fail
          go_roundw
          case rel => exact ⟨j + 1, by have := Hj.out; omega, by go_num, HE⟩
          case measure => have := Hj.out; simp [intOf]; omega
    · obtain rfl : j = C := by omega
      have hjc : ¬ (j : Int) < (j : Int) := by omega
      obtain ⟨T1, q1, q2, q3, q4, q5, q6, q7⟩ := HS.out
      obtain ⟨t0, t1, t2⟩ := cells3v q6
      obtain ⟨k0, k1, k2⟩ := cells3v q5
      obtain ⟨y0, y1, y2⟩ := frozen3v q5
      have HSt := Lib.hid (q5.store3v (.int .i64 (R : Int)) (.int .i64 (j : Int)) (.slice (some ⟨go, 0, none⟩) N co))
      have HBe := Lib.hid (below3g q7 (show z0 ≤ z2 by have := Hz.out; omega) (.int .i64 (R : Int)) (.int .i64 (j : Int)) (.slice (some ⟨go, 0, none⟩) N co))
      have HKe := Lib.hid (own3g q2 (show go ≠ z2 by have := Hz.out; omega) (.int .i64 (R : Int)) (.int .i64 (j : Int)) (.slice (some ⟨go, 0, none⟩) N co))
      have HQ1 := Lib.hid q1
      clear q1 q2 q3 q4 q5 q6 q7
      go_wp2_with fail
      obtain ⟨j0, j1, j2⟩ := cells3v HSt.out
      exact bodyPost_ret (v := .tuple #[.agg #[.int .i64 (R : Int), .int .i64 (j : Int), .slice (some ⟨go, 0, none⟩) N co], .bool bb]) (by simp [results, Try.results10, go_sem, j0, j1, j2]) rfl ⟨go, co, T1, rfl, ⟨HQ1.out.1, fun e i hi j' hj' => HQ1.out.done j' hj' i hi e⟩, HKe.out, by have := Hz.out; omega, by rw [Hz.out.1]; exact HBe.out⟩
end Go.Proofs.Ytcdhpoikppfjkaa
