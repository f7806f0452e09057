/-
The document's Rows of a table. Conditions: the table has at most 2^40 numbers.
-/
import Derived.Test.YtamndbeffbcppaaMvY
import Derived.Test.YtamndbeffbcppaaMvZ
set_option linter.unusedVariables false
namespace Go.Proofs.Ytamndbeffbcppaa
open Go.RowKit
attribute [local go_sem ↓] Go.wp_at_zero Go.wp_at_succ

theorem tab_inj {C a b a' b' : Nat} (hb : b < C) (hb' : b' < C) (h : a * C + b = a' * C + b') : a = a' ∧ b = b' := by
  have h1 : (a * C + b) % C = b := by rw [Nat.mul_add_mod_self_right, Nat.mod_eq_of_lt hb]
  have h2 : (a' * C + b') % C = b' := by rw [Nat.mul_add_mod_self_right, Nat.mod_eq_of_lt hb']
  have e : b = b' := by rw [← h1, h, h2]
  subst e
  have hm : a * C = a' * C := by omega
  exact ⟨Nat.eq_of_mul_eq_mul_right (by omega) hm, rfl⟩
/-- The first q columns have changed rows i and k. -/
def Half (T : List Nat) (i k R C q : Nat) (T' : List Nat) : Prop := T'.length = T.length ∧ ∀ a, a < R → ∀ b, b < C → T'.getD (a * C + b) 0 = if b < q then T.getD (sw i k a * C + b) 0 else T.getD (a * C + b) 0
theorem Half.zero (T : List Nat) (i k R C : Nat) : Half T i k R C 0 T := ⟨rfl, fun a _ b _ => by simp⟩
theorem Half.step {T T' : List Nat} {i k R C q : Nat} (h : Half T i k R C q T') (hi : i < R) (hk : k < R) (hq : q < C) (hT : T.length = R * C) :
    Half T i k R C (q + 1) ((T'.set (i * C + q) (T'.getD (k * C + q) 0)).set (k * C + q) (T'.getD (i * C + q) 0)) := by
  refine ⟨by rw [List.length_set, List.length_set]; exact h.1, fun a ha b hb => ?_⟩
  have hli := tab_lt hi hq
  have hlk := tab_lt hk hq
  have hx := h.2 i hi q hq
  have hy := h.2 k hk q hq
  rw [if_neg (by omega)] at hx hy
  have hl := h.1
  by_cases e : b = q
  · subst e
    rw [if_pos (by omega)]
    by_cases e1 : a = k
    · subst e1
      rw [getD_set_self (by rw [List.length_set]; omega), hx]
      have : sw i a a = i := by
        unfold sw
        by_cases h2 : a = i
        · rw [if_pos h2]; exact h2
        · rw [if_neg h2, if_pos rfl]
      rw [this]
    · rw [getD_set_ne _ (fun e2 => e1 (tab_inj hq hq e2).1.symm)]
      by_cases e2 : a = i
      · subst e2
        rw [getD_set_self (by omega), hy]
        have : sw a k a = k := by unfold sw; rw [if_pos rfl]
        rw [this]
      · rw [getD_set_ne _ (fun e3 => e2 (tab_inj hq hq e3).1.symm), h.2 a ha b hb, if_neg (by omega)]
        have : sw i k a = a := by unfold sw; rw [if_neg e2, if_neg e1]
        rw [this]
  · rw [getD_set_ne _ (fun e2 => e (tab_inj hq hb e2).2.symm), getD_set_ne _ (fun e2 => e (tab_inj hq hb e2).2.symm), h.2 a ha b hb]
    by_cases h2 : b < q
    · rw [if_pos h2, if_pos (by omega)]
    · rw [if_neg h2, if_neg (by omega)]

theorem heldQ3 {W w' : World} {b0 o0 b1 o1 b2 o2 : Nat} {v0 v1 v2 : Value} {R : World → Prop} (h : W.cell? ⟨b0, o0, none⟩ = some v0 ∧ W.cell? ⟨b1, o1, none⟩ = some v1 ∧ W.cell? ⟨b2, o2, none⟩ = some v2 ∧ R W) (hb : Below W.heap.size W w') (hR : R W → R w') :
    w'.cell? ⟨b0, o0, none⟩ = some v0 ∧ w'.cell? ⟨b1, o1, none⟩ = some v1 ∧ w'.cell? ⟨b2, o2, none⟩ = some v2 ∧ R w' :=
  ⟨cell_below h.1 hb, cell_below h.2.1 hb, cell_below h.2.2.1 hb, hR h.2.2.2⟩
theorem heldS3 {W : World} {b0 o0 b1 o1 b2 o2 g j : Nat} {v0 v1 v2 : Value} {R : World → Prop} (u : Value) (h : W.cell? ⟨b0, o0, none⟩ = some v0 ∧ W.cell? ⟨b1, o1, none⟩ = some v1 ∧ W.cell? ⟨b2, o2, none⟩ = some v2 ∧ R W) (hR : R W → R (W.setCell ⟨g, j, none⟩ u)) (n0 : ¬ (b0 = g ∧ o0 = j)) (n1 : ¬ (b1 = g ∧ o1 = j)) (n2 : ¬ (b2 = g ∧ o2 = j)) :
    (W.setCell ⟨g, j, none⟩ u).cell? ⟨b0, o0, none⟩ = some v0 ∧ (W.setCell ⟨g, j, none⟩ u).cell? ⟨b1, o1, none⟩ = some v1 ∧ (W.setCell ⟨g, j, none⟩ u).cell? ⟨b2, o2, none⟩ = some v2 ∧ R (W.setCell ⟨g, j, none⟩ u) :=
  ⟨(cell_set2 n0 u).trans h.1, (cell_set2 n1 u).trans h.2.1, (cell_set2 n2 u).trans h.2.2.1, hR h.2.2.2⟩
set_option maxHeartbeats 1000000 in
theorem rrows_any (R C N g c i k : Nat) (T : List Nat) (w : World) (hB : Blk w g 48 (f64s T).toArray) (hT : T.length = N) (hN : R * C = N) (hNb : N ≤ 1048576) (hR : R < 1048576) (hC : C < 1048576) (hi : i < R) (hk : k < R) :
    Calls Try.prog 15 #[tbl R C g N c, .int .i64 i, .int .i64 k] w fun e w' => e = .returned (.tuple #[]) ∧ ∃ T', Blk w' g 48 (f64s T').toArray ∧ Half T i k R C C T' ∧ Chg [g] w w' := by
  have hgz := hB.lt
  have HI := Lib.hid (fun x q (hx : x < R) (hq : q < C) => show x * C + q < N ∧ I64 ((x : Int) * (C : Int)) ∧ (x : Int) * (C : Int) + (q : Int) = ((x * C + q : Nat) : Int) from by
    have h1 := tab_lt hx hq
    have e : (x : Int) * (C : Int) = ((x * C : Nat) : Int) := by simp
    rw [e]
    unfold I64
    omega)
  have HAt := Lib.hid (fun W (T' : List Nat) (hl : T'.length = N) (hB : Row W (some ⟨g, 0, none⟩) (f64s T')) (x q : Nat) (hx : x < R) (hq : q < C) => rat_any R C g N c T' x q (x * C + q) W hB hl (HI.out x q hx hq).1 (by omega) (HI.out x q hx hq).2.2 (HI.out x q hx hq).2.1)
  have HSe := Lib.hid (fun W (T' : List Nat) (hl : T'.length = N) (hB : Blk W g 48 (f64s T').toArray) (x q v : Nat) (hx : x < R) (hq : q < C) => rset_any R C g N c T' x q (x * C + q) v W hB hl (HI.out x q hx hq).1 (by omega) (HI.out x q hx hq).2.2 (HI.out x q hx hq).2.1)
  have HB0 := Lib.hid hB
  have Ht := Lib.hid hT
  have Hn := Lib.hid hN
  have Hi := Lib.hid hi
  have Hk := Lib.hid hk
  clear hB hT hN hi hk
  unfold tbl at *
  go_enter Try.func15, Try.ntmps15
  have HZ := Lib.hid (Blk.new w 34 #[.int .i64 R, .int .i64 C, .slice (some ⟨g, 0, none⟩) N c])
  have HBl := Lib.hid (below_one (W := w) (o := (.cells #[.int .i64 R, .int .i64 C, .slice (some ⟨g, 0, none⟩) N c] 34)))
  go_wp2_with fail
  generalize hzz : w.heap.size = z at *
  have Hz := Lib.hid hzz
  clear hzz
  go_loopw [6] (fun a wr => ∃ (q : Nat) (T' : List Nat), q ≤ C ∧ a = .int .i64 q ∧ Blk wr g 48 (f64s T').toArray ∧ Half T i k R C q T' ∧ Chg [g] w wr ∧ Blk wr z 34 #[.int .i64 R, .int .i64 C, .slice (some ⟨g, 0, none⟩) N c]) (fun a _ => C - (intOf a).toNat)
  case atStart => exact ⟨0, T, Nat.zero_le _, rfl, HB0.out.alloc _, Half.zero _ _ _ _ _, .of_below (by rw [Hz.out]; exact HBl.out), HZ.out⟩
  case round =>
    obtain ⟨q, T', hq, rfl, hb1, hh1, hc1, hz1⟩ := hrel
    have HB1 := Lib.hid hb1
    have HH1 := Lib.hid hh1
    have HC1 := Lib.hid hc1
    have HZ1 := Lib.hid hz1
    clear hb1 hh1 hc1 hz1
    obtain ⟨c0, c1, c2⟩ := cells3v HZ1.out
    by_cases hlt : q < C
    · have hl1 : T'.length = N := by rw [HH1.out.1, Ht.out]
      have HA2 := Lib.hid (fun W (hb : Below wr.heap.size wr W) (x : Nat) (u : Nat) (h : (x = i ∧ u = T'.getD (i * C + q) 0) ∨ (x = k ∧ u = T'.getD (k * C + q) 0)) =>
        show Calls Try.prog 46 #[.agg #[.int .i64 R, .int .i64 C, .slice (some ⟨g, 0, none⟩) N c], .int .i64 x, .int .i64 q] W fun e w' => e = .returned (.float .f64 u) ∧ Below W.heap.size W w' from by
          rcases h with ⟨rfl, rfl⟩ | ⟨rfl, rfl⟩
          · exact HAt.out W T' hl1 ((row_of_blk HB1.out).below hb) _ q Hi.out hlt
          · exact HAt.out W T' hl1 ((row_of_blk HB1.out).below hb) _ q Hk.out hlt)
      have hstep := HH1.out.step Hi.out Hk.out hlt (by rw [Ht.out, Hn.out])
      obtain ⟨x, hx⟩ : ∃ x, T'.getD (i * C + q) 0 = x := ⟨_, rfl⟩
      obtain ⟨y, hy⟩ : ∃ y, T'.getD (k * C + q) 0 = y := ⟨_, rfl⟩
      rw [hx, hy] at HA2 hstep
      have HStp := Lib.hid hstep
      have Hl1 := Lib.hid hl1
      have HLt := Lib.hid hlt
      have hqc : (q : Int) < (C : Int) := by omega
      clear hstep hx hy hl1
      go_wp2_with fail
      go_region_held3 (fun w' => w'.cell? ⟨z, 0, none⟩ = some (.int .i64 R) ∧ w'.cell? ⟨z, 1, none⟩ = some (.int .i64 C) ∧ w'.cell? ⟨z, 2, none⟩ = some (.slice (some ⟨g, 0, none⟩) N c) ∧ Below wr.heap.size wr w')
        (first | exact ⟨c0, c1, c2, (Below.refl _ wr).drew⟩ | exact heldQ3 ‹_ ∧ _ ∧ _ ∧ Below wr.heap.size wr _› hbA (fun h => h.trans (hbA.mono h.size)))
        ((go_at_call 46; refine (HA2.out _ (‹_ ∧ _ ∧ _ ∧ Below wr.heap.size wr _›).2.2.2 _ _ (by first | exact .inl ⟨rfl, rfl⟩ | exact .inr ⟨rfl, rfl⟩)).mono ?_; rintro e1 wA ⟨rfl, hbA⟩; skip))
      have hbw := (‹_ ∧ _ ∧ _ ∧ Below wr.heap.size wr _›).2.2.2
      clear c0 c1 c2
      have HB2 := Lib.hid (HB1.out.nxt hbw)
      have HZ2 := Lib.hid (HZ1.out.nxt hbw)
      have HC2 := Lib.hid (HC1.out.nxt hbw)
      clear hbw
      obtain ⟨c0, c1, c2⟩ := cells3v HZ2.out
      go_wp2_with fail
      refine (HSe.out _ T' Hl1.out HB2.out i q y Hi.out HLt.out).mono ?_
      rintro e w3 ⟨rfl, hb3, hO3⟩
      have hzg : z ≠ g := by omega
      have HB3 := Lib.hid hb3
      have HZ3 := Lib.hid (hO3.blk hzg HZ2.out)
      have HC3 := Lib.hid (HC2.out.trans (.of_only hO3 (by simp)))
      clear hb3 hO3 c0 c1 c2
      obtain ⟨c0, c1, c2⟩ := cells3v HZ3.out
      go_wp2_with fail
      refine (HSe.out _ _ (by rw [List.length_set]; exact Hl1.out) HB3.out k q x Hk.out HLt.out).mono ?_
      rintro e w4 ⟨rfl, hb4, hO4⟩
      have HB4 := Lib.hid hb4
      have HZ4 := Lib.hid (hO4.blk hzg HZ3.out)
      have HC4 := Lib.hid (HC3.out.trans (.of_only hO4 (by simp)))
      clear hb4 hO4 c0 c1 c2
      go_wp2_with fail
      go_roundw
      case rel => exact ⟨q + 1, _, by omega, by go_num, HB4.out, HStp.out, HC4.out, HZ4.out⟩
      case measure => simp [intOf]; omega
    · obtain rfl : q = C := by omega
      have hqc : ¬ (q : Int) < (q : Int) := by omega
      go_wp2_with fail
      go_end0
      exact ⟨rfl, T', HB1.out, HH1.out, HC1.out⟩
end Go.Proofs.Ytamndbeffbcppaa
