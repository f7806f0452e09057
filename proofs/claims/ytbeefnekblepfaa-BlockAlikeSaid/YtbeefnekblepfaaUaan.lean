/-
Tables of the document: Of, as a block; At; rows that change places. Conditions: as each says.
-/
import Derived.Test.YtbeefnekblepfaaUaal
set_option linter.unusedVariables false
namespace Go.Proofs.Ytbeefnekblepfaa
open Go.RowKit
attribute [local go_sem ↓] Go.wp_at_zero Go.wp_at_succ

set_option maxHeartbeats 2000000 in
theorem rof_blk (A : Option Addr) (n c : Nat) (l : List Nat) (off r k ld N : Nat) (w : World) (hA : Row w A (f64s l)) (hl : l.length = n) (hn : n < 9223372036854775808) (hN : r * k = N) (hb : N ≤ 1099511627776)
    (hr : r < 9223372036854775808) (hk : k < 9223372036854775808) (hg : r = 0 ∨ k = 0 ∨ off + (k - 1) * ld + (r - 1) < n) :
    Calls Try.prog 15 #[mat A n c off r k ld] w fun e w' => ∃ g T, e = .returned (tbl r k g N N) ∧ Tab l off r k ld N T ∧ Blk w' g 23 (f64s T).toArray ∧ w.heap.size ≤ g ∧ Below w.heap.size w w' := by
  have hin : ∀ i j, i < r → j < k → off + i + j * ld < n := by
    intro i j hi hj
    have h1 : j * ld ≤ (k - 1) * ld := Nat.mul_le_mul_right _ (by omega)
    omega
  have HA := Lib.hid hA
  have HIn := Lib.hid hin
  have HL := Lib.hid hl
  have HN := Lib.hid hN
  have HBN := Lib.hid hb
  clear hA hin hl hg hN hb
  unfold mat
  go_enter Try.func15, Try.ntmps15
  have hb0 := (Blk.new w 26 #[.slice A n c, .int .i64 off, .int .i64 r, .int .i64 k, .int .i64 ld]).alloc (.cells #[.int .i64 0, .int .i64 0, .slice none 0 0] 39)
  have hb1 := Blk.new_ (w.alloc (.cells #[.slice A n c, .int .i64 off, .int .i64 r, .int .i64 k, .int .i64 ld] 26)) 39 #[.int .i64 0, .int .i64 0, .slice none 0 0] (w.heap.size + 1) (by simp)
  have hbl := ((Below.refl w.heap.size w).alloc (Nat.le_refl _) (.cells #[.slice A n c, .int .i64 off, .int .i64 r, .int .i64 k, .int .i64 ld] 26)).alloc (by simp) (.cells #[.int .i64 0, .int .i64 0, .slice none 0 0] 39)
  have HB0 := Lib.hid hb0
  have HB1 := Lib.hid hb1
  have HBl := Lib.hid hbl
  clear hb0 hb1 hbl
  go_wp2_with fail
  refine (rnew_any r k N _ HN.out HBN.out hr hk).mono ?_
  rintro e w1 ⟨g, rfl, hG, hgs, hb⟩
  have hgs2 : w.heap.size + 1 + 1 ≤ g := by simpa using hgs
  have b0 := (HB0.out.nxt hb).alloc (.cells #[.int .i64 r, .int .i64 k, .slice (some ⟨g, 0, none⟩) N N] 39)
  have b1 := (HB1.out.nxt hb).alloc (.cells #[.int .i64 r, .int .i64 k, .slice (some ⟨g, 0, none⟩) N N] 39)
  have bg := hG.alloc (.cells #[.int .i64 r, .int .i64 k, .slice (some ⟨g, 0, none⟩) N N] 39)
  have bo := Blk.new w1 39 #[.int .i64 r, .int .i64 k, .slice (some ⟨g, 0, none⟩) N N]
  have hgl := hG.lt
  have hbl := HBl.out.trans (hb.mono (by simp; omega))
  have hbl2 := hbl.alloc hbl.size (.cells #[.int .i64 r, .int .i64 k, .slice (some ⟨g, 0, none⟩) N N] 39)
  have Q0 := Lib.hid b0
  have Q1 := Lib.hid b1
  have Qg := Lib.hid bg
  have Qo := Lib.hid bo
  have Qb := Lib.hid hbl2
  clear b0 b1 bg bo hbl hbl2 hG hb HB0 HB1 HBl
  unfold tbl
  go_wp2_with fail
  generalize hq : w1.heap.size = q at *
  generalize w1.alloc (.cells #[.int .i64 r, .int .i64 k, .slice (some ⟨g, 0, none⟩) N N] 39) = W3 at *
  generalize hz : w.heap.size = z at *
  have HZ := Lib.hid hz
  clear hz hq
  go_loopw [4] (fun i wr => ∃ (a : Nat) (T : List Nat), a ≤ r ∧ i = .int .i64 (a : Int) ∧ Hid (Tab l off r k ld (a * k) T ∧ Blk wr g 23 (f64s T).toArray ∧ Blk wr z 26 #[.slice A n c, .int .i64 off, .int .i64 r, .int .i64 k, .int .i64 ld] ∧ Blk wr (z + 1) 39 #[.int .i64 0, .int .i64 0, .slice none 0 0] ∧ Blk wr q 39 #[.int .i64 r, .int .i64 k, .slice (some ⟨g, 0, none⟩) N N] ∧ Below z w wr)) (fun i _ => r - (intOf i).toNat)
  case atStart => exact ⟨0, List.replicate N 0, Nat.zero_le _, rfl, Lib.hid ⟨by rw [Nat.zero_mul, ← HN.out]; exact Tab.zero _ _ _ _ _, Qg.out, Q0.out, Q1.out, Qo.out, Qb.out⟩⟩
  case round =>
    obtain ⟨a, T, har, rfl, HS⟩ := hrel
    by_cases hlt : a < r
    · obtain ⟨c0, c1, c2, c3, c4⟩ := cells5 HS.out.2.2.1
      have har2 : (a : Int) < (r : Int) := by omega
      go_wp2_with fail
      clear c0 c1 c2 c3 c4
      go_loopw [5] (fun i wr => ∃ (b : Nat) (T : List Nat), b ≤ k ∧ i = .int .i64 (b : Int) ∧ Hid (Tab l off r k ld (a * k + b) T ∧ Blk wr g 23 (f64s T).toArray ∧ Blk wr z 26 #[.slice A n c, .int .i64 off, .int .i64 r, .int .i64 k, .int .i64 ld] ∧ Blk wr (z + 1) 39 #[.int .i64 0, .int .i64 0, .slice none 0 0] ∧ Blk wr q 39 #[.int .i64 r, .int .i64 k, .slice (some ⟨g, 0, none⟩) N N] ∧ Below z w wr)) (fun i _ => k - (intOf i).toNat)
      case atStart => exact ⟨0, T, Nat.zero_le _, rfl, HS⟩
      case round =>
        obtain ⟨b, T, hbk, rfl, HS⟩ := hrel
        obtain ⟨c0, c1, c2, c3, c4⟩ := cells5 HS.out.2.2.1
        by_cases hlt2 : b < k
        · obtain ⟨d0, d1, d2⟩ := cells3v HS.out.2.2.2.2.1
          have hs := HIn.out a b hlt hlt2
          have hsl : off + a + b * ld < l.length := by rw [HL.out]; exact hs
          obtain ⟨ab, ao, rfl, hab, hcell0⟩ := HA.out.at_ (f64s_get l _ hsl)
          have hcell := cell_below hcell0 (show Below w.heap.size w _ by rw [HZ.out]; exact HS.out.2.2.2.2.2)
          have habz : ab < z := by rw [← HZ.out]; exact hab
          have hv : l.getD (off + a + b * ld) 0 = l[off + a + b * ld] := by simp [List.getD, hsl]
          have hstep := HS.out.1.step hlt hlt2
          rw [hv] at hstep
          generalize l[off + a + b * ld] = v at *
          have hp := tab_lt hlt hlt2
          obtain ⟨m, hm⟩ : ∃ m, b * ld = m := ⟨_, rfl⟩
          obtain ⟨u, hu⟩ : ∃ u, off + a = u := ⟨_, rfl⟩
          obtain ⟨p, hpp⟩ : ∃ p, a * k + b = p := ⟨_, rfl⟩
          have e1 : (b : Int) * (ld : Int) = (m : Int) := by rw [← hm]; simp
          have e2 : (off : Int) + (a : Int) = (u : Int) := by omega
          rw [hm, hu] at hcell hs
          rw [hpp] at hp hstep
          obtain ⟨s, hs2⟩ : ∃ s, u + m = s := ⟨_, rfl⟩
          have e3 : (u : Int) + (m : Int) = (s : Int) := by omega
          rw [hs2] at hcell hs
          have w1' : IntKind.i64.wrap (u : Int) = (u : Int) := wrapi (by omega) (by omega)
          have w2' : IntKind.i64.wrap (m : Int) = (m : Int) := wrapi (by omega) (by omega)
          have w3' : IntKind.i64.wrap (s : Int) = (s : Int) := wrapi (by omega) (by omega)
          have e4 : (s : Int) < (n : Int) := by omega
          have e5 : (b : Int) < (k : Int) := by omega
          have e6 : (a : Int) * (k : Int) + (b : Int) = (p : Int) := by rw [← hpp]; simp
          have e7 : (a : Int) * (k : Int) = ((a * k : Nat) : Int) := by simp
          have HStep := Lib.hid hstep
          have HI := Lib.hid (show I64 ((a : Int) * (k : Int)) by unfold I64; have := HBN.out; have := HN.out; omega)
          have HT := Lib.hid (show T.length = N by rw [← HN.out]; exact HS.out.1.1)
          have HP := Lib.hid (show p < N by rw [← HN.out]; exact hp)
          have HNb := Lib.hid (show N < 9223372036854775808 by have := HBN.out; omega)
          have HE6 := Lib.hid e6
          clear hstep hv hsl hcell0 hm hu hpp hs2 hp e6 e7
          have HG := Lib.hid hgs2
          have HGl := Lib.hid hgl
          have n1 : z ≠ g := by omega
          have n2 : q ≠ g := by omega
          have n3 : ab ≠ g := by omega
          have hOr := (Only.refl g wr).drew
          have hBr := HS.out.2.1.drew
          clear hgs2 hgl habz
          go_wp2_with fail
          go_region_held3 (fun w' => w'.cell? ⟨z, 0, none⟩ = some (.slice (some ⟨ab, ao, none⟩) n c) ∧ w'.cell? ⟨z, 1, none⟩ = some (.int .i64 off) ∧ w'.cell? ⟨z, 4, none⟩ = some (.int .i64 ld) ∧ w'.cell? ⟨q, 0, none⟩ = some (.int .i64 r) ∧ w'.cell? ⟨q, 1, none⟩ = some (.int .i64 k) ∧ w'.cell? ⟨q, 2, none⟩ = some (.slice (some ⟨g, 0, none⟩) N N) ∧ w'.cell? ⟨ab, ao + s, none⟩ = some (.float .f64 v) ∧ Only g wr w' ∧ (Blk w' g 23 (f64s T).toArray ∨ Blk w' g 23 (f64s (T.set p v)).toArray))
            (first | exact ⟨c0, c1, c4, d0, d1, d2, hcell, hOr, .inl hBr⟩ | exact heldO7 ‹_ ∧ _ ∧ _ ∧ _ ∧ _ ∧ _ ∧ _ ∧ Only g wr _ ∧ _› hO2 hT2 n1 n1 n1 n2 n2 n2 n3)
            ((go_at_call 30; refine (rset_two r k g N N T a b p v _ (‹_ ∧ _ ∧ _ ∧ _ ∧ _ ∧ _ ∧ _ ∧ Only g wr _ ∧ _›).2.2.2.2.2.2.2.2 HT.out HP.out HNb.out HE6.out HI.out).mono ?_; rintro e wS ⟨rfl, hT2, hO2⟩; skip))
          have HO3 := Lib.hid (‹_ ∧ _ ∧ _ ∧ _ ∧ _ ∧ _ ∧ _ ∧ Only g wr _ ∧ _›).2.2.2.2.2.2.2.1
          go_wp2_with fail
          go_roundw
          case rel =>
            have h0 := HG.out
            have h1 := HGl.out
            exact ⟨b + 1, T.set p v, by omega, by go_num, Lib.hid ⟨HStep.out, hT2, HO3.out.blk (by omega) HS.out.2.2.1, HO3.out.blk (by omega) HS.out.2.2.2.1, HO3.out.blk (by omega) HS.out.2.2.2.2.1, HO3.out.below HS.out.2.2.2.2.2 (Nat.le_of_lt HS.out.2.2.1.lt) (by omega)⟩⟩
          case measure => simp [intOf]; omega
        · obtain rfl : b = k := by omega
          have hbb : ¬ (b : Int) < (b : Int) := by omega
          go_wp2_with fail
          go_roundw
          case rel => exact ⟨a + 1, T, by omega, by go_num, Lib.hid ⟨HS.out.1.next rfl, HS.out.2⟩⟩
          case measure => simp [intOf]; omega
    · obtain rfl : a = r := by omega
      have hbb : ¬ (a : Int) < (a : Int) := by omega
      obtain ⟨c0, c1, c2, c3, c4⟩ := cells5 HS.out.2.2.1
      obtain ⟨d0, d1, d2⟩ := cells3v HS.out.2.2.2.2.1
      obtain ⟨z0, z1, z2⟩ := cells3v HS.out.2.2.2.1
      obtain ⟨f0, f1, f2⟩ := frozen3v HS.out.2.2.2.1
      have HSt := Lib.hid (HS.out.2.2.2.1.store3v (.int .i64 a) (.int .i64 k) (.slice (some ⟨g, 0, none⟩) N N))
      have HRow := Lib.hid (show Blk (((wr.setCell ⟨z + 1, 0, none⟩ (.int .i64 a)).setCell ⟨z + 1, 1, none⟩ (.int .i64 k)).setCell ⟨z + 1, 2, none⟩ (.slice (some ⟨g, 0, none⟩) N N)) g 23 (f64s T).toArray from (((HS.out.2.1.other (p := ⟨z + 1, _, none⟩) (by simp; omega) (.int .i64 a)).other (p := ⟨z + 1, _, none⟩) (by simp; omega) (.int .i64 k)).other (p := ⟨z + 1, _, none⟩) (by simp; omega) (.slice (some ⟨g, 0, none⟩) N N)))
      have HBel := Lib.hid (show Below z w (((wr.setCell ⟨z + 1, 0, none⟩ (.int .i64 a)).setCell ⟨z + 1, 1, none⟩ (.int .i64 k)).setCell ⟨z + 1, 2, none⟩ (.slice (some ⟨g, 0, none⟩) N N)) from (((HS.out.2.2.2.2.2.setCell (p := ⟨z + 1, 0, none⟩) (by simp) (.int .i64 a)).setCell (p := ⟨z + 1, 1, none⟩) (by simp) (.int .i64 k)).setCell (p := ⟨z + 1, 2, none⟩) (by simp) (.slice (some ⟨g, 0, none⟩) N N)))
      go_wp2_with fail
      generalize (((wr.setCell ⟨z + 1, 0, none⟩ (.int .i64 a)).setCell ⟨z + 1, 1, none⟩ (.int .i64 k)).setCell ⟨z + 1, 2, none⟩ (.slice (some ⟨g, 0, none⟩) N N)) = W9 at *
      obtain ⟨j0, j1, j2⟩ := cells3v HSt.out
      rw [HZ.out]
      have ht := HS.out.1
      rw [HN.out] at ht
      refine bodyPost_ret (v := tbl a k g N N) (by simp [results, Try.results15, go_sem, j0, j1, j2, tbl]) rfl ⟨g, rfl, T, ht, HRow.out, by omega, HBel.out⟩
end Go.Proofs.Ytbeefnekblepfaa
/-
At: a number of a table. Conditions: as each says.
-/
set_option linter.unusedVariables false
namespace Go.Proofs.Ytbeefnekblepfaa
open Go.RowKit
attribute [local go_sem ↓] Go.wp_at_zero Go.wp_at_succ


theorem rat_any (r k : Int) (g n c : Nat) (T : List Nat) (i j p : Nat) (w : World) (hB : Row w (some ⟨g, 0, none⟩) (f64s T)) (hT : T.length = n) (hp : p < n) (hn : n < 9223372036854775808) (he : (i : Int) * k + (j : Int) = (p : Int)) (hm : I64 ((i : Int) * k)) :
    Calls Try.prog 25 #[tbl r k g n c, .int .i64 i, .int .i64 j] w fun e w' => e = .returned (.float .f64 (T.getD p 0)) ∧ Below w.heap.size w w' := by
  unfold I64 at hm
  have hpT : p < T.length := by omega
  obtain ⟨b, o, hbo, hlt, hc⟩ := hB.at_ (f64s_get T p hpT)
  injection hbo with hbo
  injection hbo with e1 e2 _
  subst e1 e2
  rw [Nat.zero_add] at hc
  have hv : T.getD p 0 = T[p] := getD_of_lt hpT
  rw [hv]
  obtain ⟨v, hv2⟩ : ∃ v, T[p] = v := ⟨_, rfl⟩
  rw [hv2] at hc
  rw [hv2]
  have hc2 := cell_below hc (below_one (W := w) (o := .cells #[.int .i64 r, .int .i64 k, .slice (some ⟨g, 0, none⟩) n c] 39))
  have w1 : IntKind.i64.wrap ((i : Int) * k) = (i : Int) * k := wrapi (by omega) (by omega)
  have w2 : IntKind.i64.wrap (p : Int) = (p : Int) := wrapi (by omega) (by omega)
  have hpn : (p : Int) < (n : Int) := by omega
  have hp0 : (0 : Int) ≤ (p : Int) := by omega
  clear hv hv2 hpT hc hB hT hlt
  unfold tbl
  go_enter Try.func25, Try.ntmps25
  go_wp2_with fail
  go_ret
  exact ⟨rfl, (Below.refl w.heap.size w).alloc (Nat.le_refl _) _⟩
end Go.Proofs.Ytbeefnekblepfaa
/-
The document's Rows of a table. Conditions: the table has at most 2^40 numbers.
-/
set_option linter.unusedVariables false
namespace Go.Proofs.Ytbeefnekblepfaa
open Go.RowKit
attribute [local go_sem ↓] Go.wp_at_zero Go.wp_at_succ

theorem tab_inj {C a b a' b' : Nat} (hb : b < C) (hb' : b' < C) (h : a * C + b = a' * C + b') : a = a' ∧ b = b' := by
  have h1 : (a * C + b) % C = b := by rw [Nat.mul_add_mod_self_right, Nat.mod_eq_of_lt hb]
  have h2 : (a' * C + b') % C = b' := by rw [Nat.mul_add_mod_self_right, Nat.mod_eq_of_lt hb']
  have e : b = b' := by rw [← h1, h, h2]
  subst e
  have hm : a * C = a' * C := by omega
  exact ⟨Nat.eq_of_mul_eq_mul_right (by omega) hm, rfl⟩
/-- The first q columns have changed rows i and k. -/
def Half (T : List Nat) (i k R C q : Nat) (T' : List Nat) : Prop := T'.length = T.length ∧ ∀ a, a < R → ∀ b, b < C → T'.getD (a * C + b) 0 = if b < q then T.getD (sw i k a * C + b) 0 else T.getD (a * C + b) 0
theorem Half.zero (T : List Nat) (i k R C : Nat) : Half T i k R C 0 T := ⟨rfl, fun a _ b _ => by simp⟩
theorem Half.step {T T' : List Nat} {i k R C q : Nat} (h : Half T i k R C q T') (hi : i < R) (hk : k < R) (hq : q < C) (hT : T.length = R * C) :
    Half T i k R C (q + 1) ((T'.set (i * C + q) (T'.getD (k * C + q) 0)).set (k * C + q) (T'.getD (i * C + q) 0)) := by
  refine ⟨by rw [List.length_set, List.length_set]; exact h.1, fun a ha b hb => ?_⟩
  have hli := tab_lt hi hq
  have hlk := tab_lt hk hq
  have hx := h.2 i hi q hq
  have hy := h.2 k hk q hq
  rw [if_neg (by omega)] at hx hy
  have hl := h.1
  by_cases e : b = q
  · subst e
    rw [if_pos (by omega)]
    by_cases e1 : a = k
    · subst e1
      rw [getD_set_self (by rw [List.length_set]; omega), hx]
      have : sw i a a = i := by
        unfold sw
        by_cases h2 : a = i
        · rw [if_pos h2]; exact h2
        · rw [if_neg h2, if_pos rfl]
      rw [this]
    · rw [getD_set_ne _ (fun e2 => e1 (tab_inj hq hq e2).1.symm)]
      by_cases e2 : a = i
      · subst e2
        rw [getD_set_self (by omega), hy]
        have : sw a k a = k := by unfold sw; rw [if_pos rfl]
        rw [this]
      · rw [getD_set_ne _ (fun e3 => e2 (tab_inj hq hq e3).1.symm), h.2 a ha b hb, if_neg (by omega)]
        have : sw i k a = a := by unfold sw; rw [if_neg e2, if_neg e1]
        rw [this]
  · rw [getD_set_ne _ (fun e2 => e (tab_inj hq hb e2).2.symm), getD_set_ne _ (fun e2 => e (tab_inj hq hb e2).2.symm), h.2 a ha b hb]
    by_cases h2 : b < q
    · rw [if_pos h2, if_pos (by omega)]
    · rw [if_neg h2, if_neg (by omega)]

theorem heldQ3 {W w' : World} {b0 o0 b1 o1 b2 o2 : Nat} {v0 v1 v2 : Value} {R : World → Prop} (h : W.cell? ⟨b0, o0, none⟩ = some v0 ∧ W.cell? ⟨b1, o1, none⟩ = some v1 ∧ W.cell? ⟨b2, o2, none⟩ = some v2 ∧ R W) (hb : Below W.heap.size W w') (hR : R W → R w') :
    w'.cell? ⟨b0, o0, none⟩ = some v0 ∧ w'.cell? ⟨b1, o1, none⟩ = some v1 ∧ w'.cell? ⟨b2, o2, none⟩ = some v2 ∧ R w' :=
  ⟨cell_below h.1 hb, cell_below h.2.1 hb, cell_below h.2.2.1 hb, hR h.2.2.2⟩
theorem heldS3 {W : World} {b0 o0 b1 o1 b2 o2 g j : Nat} {v0 v1 v2 : Value} {R : World → Prop} (u : Value) (h : W.cell? ⟨b0, o0, none⟩ = some v0 ∧ W.cell? ⟨b1, o1, none⟩ = some v1 ∧ W.cell? ⟨b2, o2, none⟩ = some v2 ∧ R W) (hR : R W → R (W.setCell ⟨g, j, none⟩ u)) (n0 : ¬ (b0 = g ∧ o0 = j)) (n1 : ¬ (b1 = g ∧ o1 = j)) (n2 : ¬ (b2 = g ∧ o2 = j)) :
    (W.setCell ⟨g, j, none⟩ u).cell? ⟨b0, o0, none⟩ = some v0 ∧ (W.setCell ⟨g, j, none⟩ u).cell? ⟨b1, o1, none⟩ = some v1 ∧ (W.setCell ⟨g, j, none⟩ u).cell? ⟨b2, o2, none⟩ = some v2 ∧ R (W.setCell ⟨g, j, none⟩ u) :=
  ⟨(cell_set2 n0 u).trans h.1, (cell_set2 n1 u).trans h.2.1, (cell_set2 n2 u).trans h.2.2.1, hR h.2.2.2⟩
end Go.Proofs.Ytbeefnekblepfaa
/-
The document's Take of a table. Conditions: the table has at most 2^20 numbers.
-/
set_option linter.unusedVariables false
namespace Go.Proofs.Ytbeefnekblepfaa
open Go.RowKit
attribute [local go_sem ↓] Go.wp_at_zero Go.wp_at_succ

/-- The table's rows stand as the first q changes of the order have it. -/
def Prm (T : List Nat) (zs : List Int) (R C q : Nat) (T' : List Nat) : Prop := T'.length = T.length ∧ ∀ a, a < R → ∀ b, b < C → T'.getD (a * C + b) 0 = T.getD (prm zs q a * C + b) 0
theorem Prm.step {T T' T2 : List Nat} {zs : List Int} {R C q j : Nat} (h : Prm T zs R C q T') (h2 : Half T' q j R C C T2) (hq : q < R) (hj : j < R) (e : ∀ a, prm zs (q + 1) a = prm zs q (sw q j a)) : Prm T zs R C (q + 1) T2 :=
  ⟨h2.1.trans h.1, fun a ha b hb => by
    rw [h2.2 a ha b hb, if_pos hb, h.2 _ (sw_lt hq hj ha) b hb, e]⟩

theorem heldG4 {W w' : World} {G : List Nat} {b0 o0 b1 o1 b2 o2 b3 o3 : Nat} {v0 v1 v2 v3 : Value} {R : World → Prop} (h : W.cell? ⟨b0, o0, none⟩ = some v0 ∧ W.cell? ⟨b1, o1, none⟩ = some v1 ∧ W.cell? ⟨b2, o2, none⟩ = some v2 ∧ W.cell? ⟨b3, o3, none⟩ = some v3 ∧ R W) (hc : Chg G W w') (n0 : b0 ∉ G) (n1 : b1 ∉ G) (n2 : b2 ∉ G) (n3 : b3 ∉ G) (hR : R W → R w') :
    w'.cell? ⟨b0, o0, none⟩ = some v0 ∧ w'.cell? ⟨b1, o1, none⟩ = some v1 ∧ w'.cell? ⟨b2, o2, none⟩ = some v2 ∧ w'.cell? ⟨b3, o3, none⟩ = some v3 ∧ R w' :=
  ⟨hc.cell n0 h.1, hc.cell n1 h.2.1, hc.cell n2 h.2.2.1, hc.cell n3 h.2.2.2.1, hR h.2.2.2.2⟩
end Go.Proofs.Ytbeefnekblepfaa
