/-
Gemm: Product. Conditions: as each says.
-/
import Derived.Test.YtbbgldelebgnfaaZGfC
import Derived.Test.YtbbgldelebgnfaaZGfD
set_option linter.unusedVariables false
set_option linter.unusedSimpArgs false
set_option linter.unnecessarySimpa false
namespace Go.Proofs.Ytbbgldelebgnfaa
open Go.RowKit
attribute [local go_sem ↓] Go.wp_at_zero Go.wp_at_succ

/-- The ints of a right matrix, as plain numbers. -/
def mo (L : List M5) (i : Nat) : Nat := (mL L i).o.toNat
def mr (L : List M5) (i : Nat) : Nat := (mL L i).r.toNat
def mk (L : List M5) (i : Nat) : Nat := (mL L i).k.toNat
def ml (L : List M5) (i : Nat) : Nat := (mL L i).L.toNat
theorem good_nat {L : List M5} {i : Nat} (h : goodM (mL L i) = true) : (mL L i).o = (mo L i : Int) ∧ (mL L i).r = (mr L i : Int) ∧ (mL L i).k = (mk L i : Int) ∧ (mL L i).L = (ml L i : Int) ∧ 1 ≤ ml L i ∧ mr L i ≤ ml L i ∧ (mr L i = 0 ∨ mk L i = 0 ∨ mo L i + (mk L i - 1) * ml L i + (mr L i - 1) < (mL L i).l.length) := by
  obtain ⟨o, R, C, D, e1, e2, e3, e4, h1, h2, h3⟩ := mat_nat h
  unfold mo mr mk ml
  rw [e1, e2, e3, e4]
  exact ⟨rfl, rfl, rfl, rfl, h1, h2, h3⟩
/-- A number of a matrix of the list; of the product of the first ones. -/
def eM (L : List M5) (i a b : Nat) : Nat := (mL L i).l.getD (mo L i + a + b * ml L i) 0
def pF (L : List M5) : Nat → Nat → Nat → Nat
  | 0, a, b => eM L 0 a b
  | i + 1, a, b => geF ONEe 0 0 (fun k => pF L i a k) (fun k => eM L (i + 1) k b) (mk L i)
/-- The product of the first q + 1 matrices, as it lies. -/
def PrO (L : List M5) (R D q : Nat) (w : World) (g : Nat) (M : List Nat) : Prop := Own w g M ∧ M.length = R * mk L q ∧ Wds M ∧ ∀ a, a < R → ∀ b, b < mk L q → Is (M.getD (0 + a + b * D) 0) (pF L q a b)

set_option maxHeartbeats 2000000 in
theorem geproduct_err (A : Option Addr) (n c : Nat) (E : Int) (w : World) (hE : E ≠ 0) (hF : ∀ W, Below w.heap.size w W → Calls Try.prog 36 #[.slice A n c] W fun e w' => e = .returned (.int .i64 E) ∧ Below W.heap.size W w') :
    Calls Try.prog 17 #[.slice A n c] w fun e w' => e = .returned (.tuple #[.agg #[.slice none 0 0, .int .i64 0, .int .i64 0, .int .i64 0, .int .i64 0], .int .i64 E]) ∧ Below w.heap.size w w' := by
  have HF := Lib.hid hF
  have t0 : (E == 0) = false := by simpa using hE
  have t1 : (E != 0) = true := by simpa using hE
  clear hF hE
  go_enter Try.func17, Try.ntmps17
  have He0 := Lib.hid (Blk.new w 25 #[.slice none 0 0, .int .i64 0, .int .i64 0, .int .i64 0, .int .i64 0])
  have HB0 := Lib.hid ((Below.refl w.heap.size w).alloc (Nat.le_refl _) (.cells #[.slice none 0 0, .int .i64 0, .int .i64 0, .int .i64 0, .int .i64 0] 25))
  go_wp2_with fail
  refine (HF.out _ HB0.out).mono ?_
  rintro e w1 ⟨rfl, hb⟩
  have He1 := Lib.hid (He0.out.nxt hb)
  have HB1 := Lib.hid (below_nx HB0.out hb)
  clear hb
  obtain ⟨e0, e1, e2, e3, e4⟩ := cells5 He1.out
  obtain ⟨f0, f1, f2, f3, f4⟩ := frozen5 He1.out
  have HSt := Lib.hid (He1.out.store5 (.slice none 0 0) (.int .i64 0) (.int .i64 0) (.int .i64 0) (.int .i64 0))
  have HBe := Lib.hid (below_sets5 HB1.out (Nat.le_refl w.heap.size) (.slice none 0 0) (.int .i64 0) (.int .i64 0) (.int .i64 0) (.int .i64 0))
  go_wp2_with fail
  obtain ⟨j0, j1, j2, j3, j4⟩ := cells5 HSt.out
  exact bodyPost_ret (v := .tuple #[.agg #[.slice none 0 0, .int .i64 0, .int .i64 0, .int .i64 0, .int .i64 0], .int .i64 E]) (by simp [results, Try.results17, go_sem, j0, j1, j2, j3, j4]) rfl ⟨rfl, HBe.out⟩

/-- Times, in the list's words. -/
theorem geprod_step (L : List M5) (R D q gp : Nat) (M : List Nat) (NN : Nat) (w W : World) (hOk : (mL L (q + 1)).Ok w) (hg : goodM (mL L (q + 1)) = true) (hl : (mL L (q + 1)).l.length < 1048576) (hR : R ≤ 64) (hK : mk L q ≤ 64) (hC : mk L (q + 1) ≤ 64) (hch : mk L q = mr L (q + 1)) (hD : max 1 R = D) (hNN : R * mk L q = NN) (hb : Below w.heap.size w W) (hP : PrO L R D q W gp M) :
    Calls Try.prog 38 #[.agg #[.slice (some ⟨gp, 0, none⟩) NN NN, .int .i64 0, .int .i64 (R : Int), .int .i64 (mk L q : Int), .int .i64 (D : Int)], .agg #[.slice (mL L (q + 1)).A (mL L (q + 1)).l.length (mL L (q + 1)).c, .int .i64 (mL L (q + 1)).o, .int .i64 (mL L (q + 1)).r, .int .i64 (mL L (q + 1)).k, .int .i64 (mL L (q + 1)).L]] W fun e w' => ∃ gp NN M', e = .returned (.agg #[.slice (some ⟨gp, 0, none⟩) NN NN, .int .i64 0, .int .i64 (R : Int), .int .i64 (mk L (q + 1) : Int), .int .i64 (D : Int)]) ∧ R * mk L (q + 1) = NN ∧ PrO L R D (q + 1) w' gp M' ∧ W.heap.size ≤ gp ∧ Below W.heap.size W w' := by
  obtain ⟨e1, e2, e3, e4, g1, g2, g3⟩ := good_nat hg
  rw [e1, e2, e3, e4]
  have h := hOk.below hb
  have i1 := h.io
  have i2 := h.iL
  rw [e1] at i1
  rw [e4] at i2
  obtain ⟨p1, p2, p3, p4⟩ := hP
  have hNb : NN ≤ 4096 := by
    have h1 : R * mk L q ≤ 64 * 64 := Nat.mul_le_mul hR hK
    omega
  rw [← hch] at g2 g3 ⊢
  refine (getimes_any gp NN NN M 0 D (mL L (q + 1)).A (mL L (q + 1)).c (mL L (q + 1)).l.length (mL L (q + 1)).l (mo L (q + 1)) (ml L (q + 1)) R (mk L q) (mk L (q + 1)) _ D W p1 (by rw [p2, hNN]) (by omega) p3 (by omega) (by omega) (dense_room hNN hD) (by unfold I64; omega) (by unfold I64; omega) h.row rfl hl h.wds g1 g2 g3 i1 i2 h.fz hR (by omega) hC rfl hD).mono ?_
  rintro e w' ⟨g, l', M', k1, k2, k3, k4, k5, k6, k7⟩
  refine ⟨g, _, l', k1, rfl, ⟨k2, k3, k4, fun a ha b hb2 => ?_⟩, k6, k7⟩
  exact (k5 a ha b hb2).is2 (fun k hk => p4 a ha k hk) (fun k hk => Is.refl (getD_wds h.wds _))

/-- What Product comes to. -/
def GePrd (L : List M5) (R D q : Nat) (w : World) (e : Ending) (w' : World) : Prop := ∃ gp NN M, e = .returned (.tuple #[.agg #[.slice (some ⟨gp, 0, none⟩) NN NN, .int .i64 0, .int .i64 (R : Int), .int .i64 (mk L q : Int), .int .i64 (D : Int)], .int .i64 0]) ∧ R * mk L q = NN ∧ PrO L R D q w' gp M ∧ w.heap.size ≤ gp ∧ Below w.heap.size w w'

set_option maxRecDepth 100000 in
set_option maxHeartbeats 2000000 in
theorem geproduct_ok (b o n c : Nat) (L : List M5) (R D : Nat) (w : World) (hM : MlC w b o n L) (hL : L.length = n) (hn : n < 1048576) (hn0 : 0 < n) (hnc : n ≤ c) (hOk : ∀ i, i < n → (mL L i).Ok w) (hg : ∀ i, i < n → goodM (mL L i) = true) (hs : ∀ i, i < n → mr L i ≤ 64 ∧ mk L i ≤ 64 ∧ (mL L i).l.length < 1048576) (hch : ∀ i, 1 ≤ i → i < n → mk L (i - 1) = mr L i) (hR : mr L 0 = R) (hD : max 1 R = D) :
    Calls Try.prog 17 #[.slice (some ⟨b, o, none⟩) n c] w (GePrd L R D (n - 1) w) := by
  have HFo := Lib.hid (fun W (hb : Below w.heap.size w W) => gefollow_ok b o n c L W (hM.below hb) hL hn hn0 (fun i hi => (hOk i hi).below hb) (mr L) (mk L) hg (fun i hi => ⟨(good_nat (hg i hi)).2.1, (good_nat (hg i hi)).2.2.1, (hs i hi).1, (hs i hi).2.1⟩) hch)
  have HCl := Lib.hid (fun W (hb : Below w.heap.size w W) => show Calls Try.prog 37 #[.agg #[.slice (mL L 0).A (mL L 0).l.length (mL L 0).c, .int .i64 (mL L 0).o, .int .i64 (mL L 0).r, .int .i64 (mL L 0).k, .int .i64 (mL L 0).L]] W fun e w' => ∃ gp NN M, e = .returned (.tuple #[.agg #[.slice (some ⟨gp, 0, none⟩) NN NN, .int .i64 0, .int .i64 (R : Int), .int .i64 (mk L 0 : Int), .int .i64 (D : Int)], .int .i64 0]) ∧ R * mk L 0 = NN ∧ PrO L R D 0 w' gp M ∧ W.heap.size ≤ gp ∧ Below W.heap.size W w' from by
    obtain ⟨e1, e2, e3, e4, g1, g2, g3⟩ := good_nat (hg 0 hn0)
    rw [e1, e2, e3, e4]
    have h := (hOk 0 hn0).below hb
    have i1 := h.io
    have i2 := h.iL
    rw [e1] at i1
    rw [e4] at i2
    unfold I64 at i1 i2
    have hs0 := hs 0 hn0
    rw [hR] at g2 g3 hs0 ⊢
    refine (clone_ok (mL L 0).A (mL L 0).l.length (mL L 0).c (mL L 0).l (mo L 0) R (mk L 0) (ml L 0) _ D W h.row rfl h.lc hs0.2.2 (by omega) rfl hD g1 g2 g3).mono ?_
    rintro e w' ⟨g, k1, k2, k3, k4⟩
    have hlen : (colsL (mL L 0).l (mo L 0) R (ml L 0) (mk L 0)).length = R * mk L 0 := by rw [colsL_length, Nat.mul_comm]
    refine ⟨g, _, _, k1, rfl, ⟨own_blk k2, hlen, ?_, fun a ha b hb2 => ?_⟩, k3, k4⟩
    · intro v hv
      obtain ⟨x, hx, rfl⟩ := List.mem_iff_getElem.1 hv
      rw [← getD_of_lt hx]
      rw [hlen] at hx
      have hR0 : 0 < R := by
        rcases Nat.eq_zero_or_pos R with e | e
        · rw [e] at hx; omega
        · exact e
      have e2 : x = x / R * R + x % R := by rw [Nat.mul_comm]; exact (Nat.div_add_mod x R).symm
      rw [e2, colsL_getD _ _ _ _ (Nat.mod_lt _ hR0) (Nat.div_lt_of_lt_mul hx)]
      exact getD_wds h.wds _
    · have hD2 : D = R := by omega
      rw [hD2, show 0 + a + b * R = b * R + a by omega, colsL_getD _ _ _ _ ha hb2]
      exact Is.refl (getD_wds h.wds _))
  have HSt := Lib.hid (fun (q gp : Nat) (M : List Nat) (NN : Nat) W (hq : q + 1 < n) (hNN : R * mk L q = NN) (hb : Below w.heap.size w W) (hP : PrO L R D q W gp M) => geprod_step L R D q gp M NN w W (hOk _ hq) (hg _ hq) (hs _ hq).2.2 (by have := hs 0 hn0; omega) (hs q (by omega)).2.1 (hs _ hq).2.1 (by have := hch (q + 1) (by omega) hq; rwa [Nat.add_sub_cancel] at this) hD hNN hb hP)
  have HM := Lib.hid hM
  have HM1 := Lib.hid (show ∀ q, q + 1 < n → _ from fun q hq => by
    have h := hM (q + 1) hq
    rw [show o + (q + 1) * 5 = o + 5 + q * 5 by omega] at h
    exact h)
  have hn0i : (0 : Int) < (n : Int) := by omega
  have h1n : (1 : Int) ≤ (n : Int) := by omega
  have h1c : (1 : Int) ≤ (c : Int) := by omega
  have hnci : (n : Int) ≤ (c : Int) := by omega
  clear hM hL hOk hg hs hch hR hD
  by_cases hcz : c = 1
  · obtain rfl : n = 1 := by omega
    subst hcz
    clear hn0i h1n h1c hnci
    go_enter Try.func17, Try.ntmps17
    have He0 := Lib.hid (Blk.new w 25 #[.slice none 0 0, .int .i64 0, .int .i64 0, .int .i64 0, .int .i64 0])
    have HB0 := Lib.hid ((Below.refl w.heap.size w).alloc (Nat.le_refl _) (.cells #[.slice none 0 0, .int .i64 0, .int .i64 0, .int .i64 0, .int .i64 0] 25))
    go_wp2_with fail
    refine (HFo.out _ HB0.out).mono ?_
    rintro e w1 ⟨rfl, hb⟩
    have He1 := Lib.hid (He0.out.nxt hb)
    have HB1 := Lib.hid (below_nx HB0.out hb)
    clear hb
    obtain ⟨c0, c1', c2, c3, c4⟩ := HM.out.below HB1.out 0 (by omega)
    rw [Nat.zero_mul, Nat.add_zero] at c0 c1' c2 c3 c4
    go_wp2_with fail
    clear c0 c1' c2 c3 c4
    refine (HCl.out _ HB1.out).mono ?_
    rintro e w2 ⟨gp, NN, M, rfl, hNN, hP, hgp, hb⟩
    have hsz := hb.size
    have He2 := Lib.hid ((He1.out.nxt hb).alloc (.cells #[.slice (some ⟨gp, 0, none⟩) NN NN, .int .i64 0, .int .i64 (R : Int), .int .i64 (mk L 0 : Int), .int .i64 (D : Int)] 25))
    have HPb := Lib.hid (Blk.new w2 25 #[.slice (some ⟨gp, 0, none⟩) NN NN, .int .i64 0, .int .i64 (R : Int), .int .i64 (mk L 0 : Int), .int .i64 (D : Int)])
    have HP2 := Lib.hid (show PrO L R D 0 (w2.alloc (.cells #[.slice (some ⟨gp, 0, none⟩) NN NN, .int .i64 0, .int .i64 (R : Int), .int .i64 (mk L 0 : Int), .int .i64 (D : Int)] 25)) gp M from ⟨hP.1.nxt below_one, hP.2⟩)
    have HB2 := Lib.hid (below_al (below_nx HB1.out hb) (o := .cells #[.slice (some ⟨gp, 0, none⟩) NN NN, .int .i64 0, .int .i64 (R : Int), .int .i64 (mk L 0 : Int), .int .i64 (D : Int)] 25))
    have HNe := Lib.hid (show w.heap.size ≤ gp ∧ R * mk L 0 = NN ∧ w.heap.size < w2.heap.size from ⟨by have := HB1.out.size; omega, hNN, by have := He1.out.lt; omega⟩)
    clear hb hP hgp hNN hsz
    go_wp2_with fail
    generalize hw3 : w2.alloc (.cells #[.slice (some ⟨gp, 0, none⟩) NN NN, .int .i64 0, .int .i64 (R : Int), .int .i64 (mk L 0 : Int), .int .i64 (D : Int)] 25) = w3 at *
    generalize hpk : w2.heap.size = pbk at *
    have HNf := HNe
    clear hw3 hpk HNe
    go_loopw [25] (fun a wr => ∃ q : Nat, q ≤ 0 ∧ a = .int .i64 q ∧ Hid (∃ gp NN M, R * mk L q = NN ∧ PrO L R D q wr gp M ∧ w.heap.size ≤ gp ∧ Blk wr pbk 25 #[.slice (some ⟨gp, 0, none⟩) NN NN, .int .i64 0, .int .i64 (R : Int), .int .i64 (mk L q : Int), .int .i64 (D : Int)] ∧ Blk wr w.heap.size 25 #[.slice none 0 0, .int .i64 0, .int .i64 0, .int .i64 0, .int .i64 0] ∧ Below w.heap.size w wr)) (fun a _ => 0 - (intOf a).toNat)
    case atStart => exact ⟨0, Nat.zero_le _, rfl, Lib.hid ⟨gp, NN, M, HNf.out.2.1, HP2.out, HNf.out.1, HPb.out, He2.out, HB2.out⟩⟩
    case round =>
      clear HP2 HPb He2 HB2
      obtain ⟨q, hq, rfl, HH⟩ := hrel
      obtain rfl : q = 0 := by omega
      obtain ⟨gp, NN, M, p1, p2, p3, p4, p5, p6⟩ := HH.out
      have HK := Lib.hid (And.intro p1 (And.intro p2 p3))
      obtain ⟨z0, z1, z2, z3, z4⟩ := cells5 p4
      obtain ⟨e0, e1, e2, e3, e4⟩ := cells5 p5
      obtain ⟨f0, f1, f2, f3, f4⟩ := frozen5 p5
      have HSe := Lib.hid (p5.store5 (.slice (some ⟨gp, 0, none⟩) NN NN) (.int .i64 0) (.int .i64 (R : Int)) (.int .i64 (mk L 0 : Int)) (.int .i64 (D : Int)))
      have HBe := Lib.hid (below_sets5 p6 (Nat.le_refl w.heap.size) (.slice (some ⟨gp, 0, none⟩) NN NN) (.int .i64 0) (.int .i64 (R : Int)) (.int .i64 (mk L 0 : Int)) (.int .i64 (D : Int)))
      have HKe := Lib.hid (own_offe p2.1 (own_ne p2.1 p5 (by decide)) (fun k (hk : k ≠ w.heap.size) => heap_sets5 (w := wr) hk (.slice (some ⟨gp, 0, none⟩) NN NN) (.int .i64 0) (.int .i64 (R : Int)) (.int .i64 (mk L 0 : Int)) (.int .i64 (D : Int))))
      clear p1 p2 p3 p4 p5 p6
      go_wp2_with fail
      obtain ⟨j0, j1, j2, j3, j4⟩ := cells5 HSe.out
      exact bodyPost_ret (v := .tuple #[.agg #[.slice (some ⟨gp, 0, none⟩) NN NN, .int .i64 0, .int .i64 (R : Int), .int .i64 (mk L 0 : Int), .int .i64 (D : Int)], .int .i64 0]) (by simp [results, Try.results17, go_sem, j0, j1, j2, j3, j4]) rfl ⟨gp, NN, M, rfl, HK.out.1, ⟨HKe.out, HK.out.2.1.2⟩, HK.out.2.2, HBe.out⟩
  · obtain ⟨n1, hn1⟩ : ∃ n1, n - 1 = n1 := ⟨_, rfl⟩
    have Hn1 := Lib.hid (show n = n1 + 1 ∧ n1 < 1048576 by omega)
    rw [hn1]
    go_enter Try.func17, Try.ntmps17
    have He0 := Lib.hid (Blk.new w 25 #[.slice none 0 0, .int .i64 0, .int .i64 0, .int .i64 0, .int .i64 0])
    have HB0 := Lib.hid ((Below.refl w.heap.size w).alloc (Nat.le_refl _) (.cells #[.slice none 0 0, .int .i64 0, .int .i64 0, .int .i64 0, .int .i64 0] 25))
    go_wp2_with fail
    refine (HFo.out _ HB0.out).mono ?_
    rintro e w1 ⟨rfl, hb⟩
    have He1 := Lib.hid (He0.out.nxt hb)
    have HB1 := Lib.hid (below_nx HB0.out hb)
    clear hb
    obtain ⟨c0, c1', c2, c3, c4⟩ := HM.out.below HB1.out 0 hn0
    rw [Nat.zero_mul, Nat.add_zero] at c0 c1' c2 c3 c4
    go_wp2_with fail
    clear c0 c1' c2 c3 c4
    refine (HCl.out _ HB1.out).mono ?_
    rintro e w2 ⟨gp, NN, M, rfl, hNN, hP, hgp, hb⟩
    have hsz := hb.size
    have He2 := Lib.hid ((He1.out.nxt hb).alloc (.cells #[.slice (some ⟨gp, 0, none⟩) NN NN, .int .i64 0, .int .i64 (R : Int), .int .i64 (mk L 0 : Int), .int .i64 (D : Int)] 25))
    have HPb := Lib.hid (Blk.new w2 25 #[.slice (some ⟨gp, 0, none⟩) NN NN, .int .i64 0, .int .i64 (R : Int), .int .i64 (mk L 0 : Int), .int .i64 (D : Int)])
    have HP2 := Lib.hid (show PrO L R D 0 (w2.alloc (.cells #[.slice (some ⟨gp, 0, none⟩) NN NN, .int .i64 0, .int .i64 (R : Int), .int .i64 (mk L 0 : Int), .int .i64 (D : Int)] 25)) gp M from ⟨hP.1.nxt below_one, hP.2⟩)
    have HB2 := Lib.hid (below_al (below_nx HB1.out hb) (o := .cells #[.slice (some ⟨gp, 0, none⟩) NN NN, .int .i64 0, .int .i64 (R : Int), .int .i64 (mk L 0 : Int), .int .i64 (D : Int)] 25))
    have HNe := Lib.hid (show w.heap.size ≤ gp ∧ R * mk L 0 = NN ∧ w.heap.size < w2.heap.size from ⟨by have := HB1.out.size; omega, hNN, by have := He1.out.lt; omega⟩)
    clear hb hP hgp hNN hsz
    go_wp2_with fail
    generalize hw3 : w2.alloc (.cells #[.slice (some ⟨gp, 0, none⟩) NN NN, .int .i64 0, .int .i64 (R : Int), .int .i64 (mk L 0 : Int), .int .i64 (D : Int)] 25) = w3 at *
    generalize hpk : w2.heap.size = pbk at *
    have HNf := HNe
    clear hw3 hpk HNe
    go_loopw [25] (fun a wr => ∃ q : Nat, q ≤ n1 ∧ a = .int .i64 q ∧ Hid (∃ gp NN M, R * mk L q = NN ∧ PrO L R D q wr gp M ∧ w.heap.size ≤ gp ∧ Blk wr pbk 25 #[.slice (some ⟨gp, 0, none⟩) NN NN, .int .i64 0, .int .i64 (R : Int), .int .i64 (mk L q : Int), .int .i64 (D : Int)] ∧ Blk wr w.heap.size 25 #[.slice none 0 0, .int .i64 0, .int .i64 0, .int .i64 0, .int .i64 0] ∧ Below w.heap.size w wr)) (fun a _ => n1 - (intOf a).toNat)
    case atStart => exact ⟨0, Nat.zero_le _, rfl, Lib.hid ⟨gp, NN, M, HNf.out.2.1, HP2.out, HNf.out.1, HPb.out, He2.out, HB2.out⟩⟩
    case round =>
      clear HP2 HPb He2 HB2
      obtain ⟨q, hq, rfl, HH⟩ := hrel
      by_cases hlt : q < n1
      · have hqi : (q : Int) < (n1 : Int) := by omega
        have hq1 : q + 1 ≤ 1048576 := by have := Hn1.out; omega
        have hq2 : q + 1 < n := by have := Hn1.out; omega
        obtain ⟨gp1, N1, M1, p1, p2, p3, p4, p5, p6⟩ := HH.out
        have HTi0 := Lib.hid (fun W (hb : Below wr.heap.size wr W) => HSt.out q gp1 M1 N1 W hq2 p1 (below_nx p6 hb) ⟨p2.1.nxt hb, p2.2⟩)
        obtain ⟨c0, c1', c2, c3, c4⟩ := HM1.out q hq2
        have HCx := Lib.hid (And.intro (cell_below c0 p6) (And.intro (cell_below c1' p6) (And.intro (cell_below c2 p6) (And.intro (cell_below c3 p6) (cell_below c4 p6)))))
        clear c0 c1' c2 c3 c4
        obtain ⟨c0, c1', c2, c3, c4⟩ := HCx.out
        obtain ⟨k1, hk1⟩ : ∃ k1, mk L q = k1 := ⟨_, rfl⟩
        obtain ⟨x, hx⟩ : ∃ x, mL L (q + 1) = x := ⟨_, rfl⟩
        obtain ⟨A2, l2, m2, o2, r2, k2, L2⟩ := x
        rw [hx] at c0 c1' c2 c3 c4
        simp only at c0 c1' c2 c3 c4
        rw [hx, hk1] at HTi0
        rw [hk1] at p4
        have HTi := Lib.hid (fun W (hb : Below wr.heap.size wr W) => show Calls Try.prog 38 #[.agg #[.slice (some ⟨gp1, 0, none⟩) N1 N1, .int .i64 0, .int .i64 (R : Int), .int .i64 (k1 : Int), .int .i64 (D : Int)], .agg #[.slice A2 l2.length m2, .int .i64 o2, .int .i64 r2, .int .i64 k2, .int .i64 L2]] W fun e w' => ∃ gp NN M', e = .returned (.agg #[.slice (some ⟨gp, 0, none⟩) NN NN, .int .i64 0, .int .i64 (R : Int), .int .i64 (mk L (q + 1) : Int), .int .i64 (D : Int)]) ∧ R * mk L (q + 1) = NN ∧ PrO L R D (q + 1) w' gp M' ∧ W.heap.size ≤ gp ∧ Below W.heap.size W w' from HTi0.out W hb)
        clear HTi0 hx hk1
        have Hm := Lib.hid (Blk.new wr 25 #[.slice A2 l2.length m2, .int .i64 o2, .int .i64 r2, .int .i64 k2, .int .i64 L2])
        have Hp := Lib.hid (p4.alloc (.cells #[.slice A2 l2.length m2, .int .i64 o2, .int .i64 r2, .int .i64 k2, .int .i64 L2] 25))
        have He := Lib.hid (p5.alloc (.cells #[.slice A2 l2.length m2, .int .i64 o2, .int .i64 r2, .int .i64 k2, .int .i64 L2] 25))
        have HBm := Lib.hid (below_al p6 (o := (.cells #[.slice A2 l2.length m2, .int .i64 o2, .int .i64 r2, .int .i64 k2, .int .i64 L2] 25)))
        have HBw := Lib.hid (below_one (W := wr) (o := (.cells #[.slice A2 l2.length m2, .int .i64 o2, .int .i64 r2, .int .i64 k2, .int .i64 L2] 25)))
        obtain ⟨z0, z1, z2, z3, z4⟩ := cells5 Hp.out
        clear p1 p2 p3 p4 p5 p6
        go_wp2_with fail
        clear c0 c1' c2 c3 c4 z0 z1 z2 z3 z4
        refine (HTi.out _ HBw.out).mono ?_
        rintro e w5 ⟨gp2, N2, M2, rfl, hN2, hP2, hg2, hb⟩
        have Hp5 := Lib.hid (Hp.out.nxt hb)
        have He5 := Lib.hid (He.out.nxt hb)
        have HB5 := Lib.hid (below_nx HBm.out hb)
        have HP5 := Lib.hid hP2
        have HN5 := Lib.hid (show R * mk L (q + 1) = N2 ∧ w.heap.size ≤ gp2 from ⟨hN2, by have := HBm.out.size; omega⟩)
        clear hN2 hP2 hg2 hb
        obtain ⟨f0, f1, f2, f3, f4⟩ := frozen5 Hp5.out
        obtain ⟨z0, z1, z2, z3, z4⟩ := cells5 Hp5.out
        have HSe := Lib.hid (Hp5.out.store5 (.slice (some ⟨gp2, 0, none⟩) N2 N2) (.int .i64 0) (.int .i64 (R : Int)) (.int .i64 (mk L (q + 1) : Int)) (.int .i64 (D : Int)))
        have hfar : ∀ k, k ≠ pbk → _ := fun k (hk : k ≠ pbk) => heap_sets5 (w := w5) hk (.slice (some ⟨gp2, 0, none⟩) N2 N2) (.int .i64 0) (.int .i64 (R : Int)) (.int .i64 (mk L (q + 1) : Int)) (.int .i64 (D : Int))
        have HEe := Lib.hid ((hfar w.heap.size (by have := HNf.out; omega)).trans He5.out)
        have HKe := Lib.hid (own_offe HP5.out.1 (own_ne HP5.out.1 Hp5.out (by decide)) hfar)
        have HBe := Lib.hid (below_sets5 HB5.out (show w.heap.size ≤ pbk by have := HNf.out; omega) (.slice (some ⟨gp2, 0, none⟩) N2 N2) (.int .i64 0) (.int .i64 (R : Int)) (.int .i64 (mk L (q + 1) : Int)) (.int .i64 (D : Int)))
        have HPe := Lib.hid (And.intro HKe.out HP5.out.2)
        clear hfar HKe
        go_wp2_with fail
        clear f0 f1 f2 f3 f4 z0 z1 z2 z3 z4
        go_roundw
        case rel => exact ⟨q + 1, by omega, by go_num, Lib.hid ⟨gp2, N2, M2, HN5.out.1, HPe.out, HN5.out.2, HSe.out, HEe.out, HBe.out⟩⟩
        case measure => simp [intOf]; omega
      · obtain rfl : q = n1 := by omega
        have hqc : ¬ (q : Int) < (q : Int) := by omega
        obtain ⟨gp, NN, M, p1, p2, p3, p4, p5, p6⟩ := HH.out
        have HK := Lib.hid (And.intro p1 (And.intro p2 p3))
        obtain ⟨z0, z1, z2, z3, z4⟩ := cells5 p4
        obtain ⟨e0, e1, e2, e3, e4⟩ := cells5 p5
        obtain ⟨f0, f1, f2, f3, f4⟩ := frozen5 p5
        have HSe := Lib.hid (p5.store5 (.slice (some ⟨gp, 0, none⟩) NN NN) (.int .i64 0) (.int .i64 (R : Int)) (.int .i64 (mk L q : Int)) (.int .i64 (D : Int)))
        have HBe := Lib.hid (below_sets5 p6 (Nat.le_refl w.heap.size) (.slice (some ⟨gp, 0, none⟩) NN NN) (.int .i64 0) (.int .i64 (R : Int)) (.int .i64 (mk L q : Int)) (.int .i64 (D : Int)))
        have HKe := Lib.hid (own_offe p2.1 (own_ne p2.1 p5 (by decide)) (fun k (hk : k ≠ w.heap.size) => heap_sets5 (w := wr) hk (.slice (some ⟨gp, 0, none⟩) NN NN) (.int .i64 0) (.int .i64 (R : Int)) (.int .i64 (mk L q : Int)) (.int .i64 (D : Int))))
        clear p1 p2 p3 p4 p5 p6
        go_wp2_with fail
        obtain ⟨j0, j1, j2, j3, j4⟩ := cells5 HSe.out
        exact bodyPost_ret (v := .tuple #[.agg #[.slice (some ⟨gp, 0, none⟩) NN NN, .int .i64 0, .int .i64 (R : Int), .int .i64 (mk L q : Int), .int .i64 (D : Int)], .int .i64 0]) (by simp [results, Try.results17, go_sem, j0, j1, j2, j3, j4]) rfl ⟨gp, NN, M, rfl, HK.out.1, ⟨HKe.out, HK.out.2.1.2⟩, HK.out.2.2, HBe.out⟩
end Go.Proofs.Ytbbgldelebgnfaa
