/-
Tables of the document: Of, as a block; At; rows that change places. Conditions: as each says.
-/
import Derived.Test.YtamndbeffbcppaaMvK
import Derived.Test.YtamndbeffbcppaaMvN
set_option linter.unusedVariables false
namespace Go.Proofs.Ytamndbeffbcppaa
open Go.RowKit
attribute [local go_sem ↓] Go.wp_at_zero Go.wp_at_succ

set_option maxHeartbeats 2000000 in
theorem rof_blk (A : Option Addr) (n c : Nat) (l : List Nat) (off r k ld N : Nat) (w : World) (hA : Row w A (f64s l)) (hl : l.length = n) (hn : n < 9223372036854775808) (hN : r * k = N) (hb : N ≤ 1099511627776)
    (hr : r < 9223372036854775808) (hk : k < 9223372036854775808) (hg : r = 0 ∨ k = 0 ∨ off + (k - 1) * ld + (r - 1) < n) :
    Calls Try.prog 14 #[mat A n c off r k ld] w fun e w' => ∃ g T, e = .returned (tbl r k g N N) ∧ Tab l off r k ld N T ∧ Blk w' g 48 (f64s T).toArray ∧ w.heap.size ≤ g ∧ Below w.heap.size w w' := by
  have hin : ∀ i j, i < r → j < k → off + i + j * ld < n := by
    intro i j hi hj
    have h1 : j * ld ≤ (k - 1) * ld := Nat.mul_le_mul_right _ (by omega)
    omega
  have HA := Lib.hid hA
  have HIn := Lib.hid hin
  have HL := Lib.hid hl
  have HN := Lib.hid hN
  have HBN := Lib.hid hb
  clear hA hin hl hg hN hb
  unfold mat
  go_enter Try.func14, Try.ntmps14
  have hb0 := (Blk.new w 24 #[.slice A n c, .int .i64 off, .int .i64 r, .int .i64 k, .int .i64 ld]).alloc (.cells #[.int .i64 0, .int .i64 0, .slice none 0 0] 34)
  have hb1 := Blk.new_ (w.alloc (.cells #[.slice A n c, .int .i64 off, .int .i64 r, .int .i64 k, .int .i64 ld] 24)) 34 #[.int .i64 0, .int .i64 0, .slice none 0 0] (w.heap.size + 1) (by simp)
  have hbl := ((Below.refl w.heap.size w).alloc (Nat.le_refl _) (.cells #[.slice A n c, .int .i64 off, .int .i64 r, .int .i64 k, .int .i64 ld] 24)).alloc (by simp) (.cells #[.int .i64 0, .int .i64 0, .slice none 0 0] 34)
  have HB0 := Lib.hid hb0
  have HB1 := Lib.hid hb1
  have HBl := Lib.hid hbl
  clear hb0 hb1 hbl
  go_wp2_with fail
  refine (rnew_any r k N _ HN.out HBN.out hr hk).mono ?_
  rintro e w1 ⟨g, rfl, hG, hgs, hb⟩
  have hgs2 : w.heap.size + 1 + 1 ≤ g := by simpa using hgs
  have b0 := (HB0.out.nxt hb).alloc (.cells #[.int .i64 r, .int .i64 k, .slice (some ⟨g, 0, none⟩) N N] 34)
  have b1 := (HB1.out.nxt hb).alloc (.cells #[.int .i64 r, .int .i64 k, .slice (some ⟨g, 0, none⟩) N N] 34)
  have bg := hG.alloc (.cells #[.int .i64 r, .int .i64 k, .slice (some ⟨g, 0, none⟩) N N] 34)
  have bo := Blk.new w1 34 #[.int .i64 r, .int .i64 k, .slice (some ⟨g, 0, none⟩) N N]
  have hgl := hG.lt
  have hbl := HBl.out.trans (hb.mono (by simp; omega))
  have hbl2 := hbl.alloc hbl.size (.cells #[.int .i64 r, .int .i64 k, .slice (some ⟨g, 0, none⟩) N N] 34)
  have Q0 := Lib.hid b0
  have Q1 := Lib.hid b1
  have Qg := Lib.hid bg
  have Qo := Lib.hid bo
  have Qb := Lib.hid hbl2
  clear b0 b1 bg bo hbl hbl2 hG hb HB0 HB1 HBl
  unfold tbl
  go_wp2_with fail
  generalize hq : w1.heap.size = q at *
  generalize w1.alloc (.cells #[.int .i64 r, .int .i64 k, .slice (some ⟨g, 0, none⟩) N N] 34) = W3 at *
  generalize hz : w.heap.size = z at *
  have HZ := Lib.hid hz
  clear hz hq
  go_loopw [4] (fun i wr => ∃ (a : Nat) (T : List Nat), a ≤ r ∧ i = .int .i64 (a : Int) ∧ Hid (Tab l off r k ld (a * k) T ∧ Blk wr g 48 (f64s T).toArray ∧ Blk wr z 24 #[.slice A n c, .int .i64 off, .int .i64 r, .int .i64 k, .int .i64 ld] ∧ Blk wr (z + 1) 34 #[.int .i64 0, .int .i64 0, .slice none 0 0] ∧ Blk wr q 34 #[.int .i64 r, .int .i64 k, .slice (some ⟨g, 0, none⟩) N N] ∧ Below z w wr)) (fun i _ => r - (intOf i).toNat)
  case atStart => exact ⟨0, List.replicate N 0, Nat.zero_le _, rfl, Lib.hid ⟨by rw [Nat.zero_mul, ← HN.out]; exact Tab.zero _ _ _ _ _, Qg.out, Q0.out, Q1.out, Qo.out, Qb.out⟩⟩
  case round =>
    obtain ⟨a, T, har, rfl, HS⟩ := hrel
    by_cases hlt : a < r
    · obtain ⟨c0, c1, c2, c3, c4⟩ := cells5 HS.out.2.2.1
      have har2 : (a : Int) < (r : Int) := by omega
      go_wp2_with fail
      clear c0 c1 c2 c3 c4
      go_loopw [5] (fun i wr => ∃ (b : Nat) (T : List Nat), b ≤ k ∧ i = .int .i64 (b : Int) ∧ Hid (Tab l off r k ld (a * k + b) T ∧ Blk wr g 48 (f64s T).toArray ∧ Blk wr z 24 #[.slice A n c, .int .i64 off, .int .i64 r, .int .i64 k, .int .i64 ld] ∧ Blk wr (z + 1) 34 #[.int .i64 0, .int .i64 0, .slice none 0 0] ∧ Blk wr q 34 #[.int .i64 r, .int .i64 k, .slice (some ⟨g, 0, none⟩) N N] ∧ Below z w wr)) (fun i _ => k - (intOf i).toNat)
      case atStart => exact ⟨0, T, Nat.zero_le _, rfl, HS⟩
      case round =>
        obtain ⟨b, T, hbk, rfl, HS⟩ := hrel
        obtain ⟨c0, c1, c2, c3, c4⟩ := cells5 HS.out.2.2.1
        by_cases hlt2 : b < k
        · obtain ⟨d0, d1, d2⟩ := cells3v HS.out.2.2.2.2.1
          have hs := HIn.out a b hlt hlt2
          have hsl : off + a + b * ld < l.length := by rw [HL.out]; exact hs
          obtain ⟨ab, ao, rfl, hab, hcell0⟩ := HA.out.at_ (f64s_get l _ hsl)
          have hcell := cell_below hcell0 (show Below w.heap.size w _ by rw [HZ.out]; exact HS.out.2.2.2.2.2)
          have habz : ab < z := by rw [← HZ.out]; exact hab
          have hv : l.getD (off + a + b * ld) 0 = l[off + a + b * ld] := by simp [List.getD, hsl]
          have hstep := HS.out.1.step hlt hlt2
          rw [hv] at hstep
          generalize l[off + a + b * ld] = v at *
          have hp := tab_lt hlt hlt2
          obtain ⟨m, hm⟩ : ∃ m, b * ld = m := ⟨_, rfl⟩
          obtain ⟨u, hu⟩ : ∃ u, off + a = u := ⟨_, rfl⟩
          obtain ⟨p, hpp⟩ : ∃ p, a * k + b = p := ⟨_, rfl⟩
          have e1 : (b : Int) * (ld : Int) = (m : Int) := by rw [← hm]; simp
          have e2 : (off : Int) + (a : Int) = (u : Int) := by omega
          rw [hm, hu] at hcell hs
          rw [hpp] at hp hstep
          obtain ⟨s, hs2⟩ : ∃ s, u + m = s := ⟨_, rfl⟩
          have e3 : (u : Int) + (m : Int) = (s : Int) := by omega
          rw [hs2] at hcell hs
          have w1' : IntKind.i64.wrap (u : Int) = (u : Int) := wrapi (by omega) (by omega)
          have w2' : IntKind.i64.wrap (m : Int) = (m : Int) := wrapi (by omega) (by omega)
          have w3' : IntKind.i64.wrap (s : Int) = (s : Int) := wrapi (by omega) (by omega)
          have e4 : (s : Int) < (n : Int) := by omega
          have e5 : (b : Int) < (k : Int) := by omega
          have e6 : (a : Int) * (k : Int) + (b : Int) = (p : Int) := by rw [← hpp]; simp
          have e7 : (a : Int) * (k : Int) = ((a * k : Nat) : Int) := by simp
          have HStep := Lib.hid hstep
          have HI := Lib.hid (show I64 ((a : Int) * (k : Int)) by unfold I64; have := HBN.out; have := HN.out; omega)
          have HT := Lib.hid (show T.length = N by rw [← HN.out]; exact HS.out.1.1)
          have HP := Lib.hid (show p < N by rw [← HN.out]; exact hp)
          have HNb := Lib.hid (show N < 9223372036854775808 by have := HBN.out; omega)
          have HE6 := Lib.hid e6
          clear hstep hv hsl hcell0 hm hu hpp hs2 hp e6 e7
          have HG := Lib.hid hgs2
          have HGl := Lib.hid hgl
          have n1 : z ≠ g := by omega
          have n2 : q ≠ g := by omega
          have n3 : ab ≠ g := by omega
          have hOr := (Only.refl g wr).drew
          have hBr := HS.out.2.1.drew
          clear hgs2 hgl habz
          go_wp2_with fail
          go_region_held3 (fun w' => w'.cell? ⟨z, 0, none⟩ = some (.slice (some ⟨ab, ao, none⟩) n c) ∧ w'.cell? ⟨z, 1, none⟩ = some (.int .i64 off) ∧ w'.cell? ⟨z, 4, none⟩ = some (.int .i64 ld) ∧ w'.cell? ⟨q, 0, none⟩ = some (.int .i64 r) ∧ w'.cell? ⟨q, 1, none⟩ = some (.int .i64 k) ∧ w'.cell? ⟨q, 2, none⟩ = some (.slice (some ⟨g, 0, none⟩) N N) ∧ w'.cell? ⟨ab, ao + s, none⟩ = some (.float .f64 v) ∧ Only g wr w' ∧ (Blk w' g 48 (f64s T).toArray ∨ Blk w' g 48 (f64s (T.set p v)).toArray))
            (first | exact ⟨c0, c1, c4, d0, d1, d2, hcell, hOr, .inl hBr⟩ | exact heldO7 ‹_ ∧ _ ∧ _ ∧ _ ∧ _ ∧ _ ∧ _ ∧ Only g wr _ ∧ _› hO2 hT2 n1 n1 n1 n2 n2 n2 n3)
            ((go_at_call 45; refine (rset_two r k g N N T a b p v _ (‹_ ∧ _ ∧ _ ∧ _ ∧ _ ∧ _ ∧ _ ∧ Only g wr _ ∧ _›).2.2.2.2.2.2.2.2 HT.out HP.out HNb.out HE6.out HI.out).mono ?_; rintro e wS ⟨rfl, hT2, hO2⟩; skip))
          have HO3 := Lib.hid (‹_ ∧ _ ∧ _ ∧ _ ∧ _ ∧ _ ∧ _ ∧ Only g wr _ ∧ _›).2.2.2.2.2.2.2.1
          go_wp2_with fail
          go_roundw
          case rel =>
            have h0 := HG.out
            have h1 := HGl.out
            exact ⟨b + 1, T.set p v, by omega, by go_num, Lib.hid ⟨HStep.out, hT2, HO3.out.blk (by omega) HS.out.2.2.1, HO3.out.blk (by omega) HS.out.2.2.2.1, HO3.out.blk (by omega) HS.out.2.2.2.2.1, HO3.out.below HS.out.2.2.2.2.2 (Nat.le_of_lt HS.out.2.2.1.lt) (by omega)⟩⟩
          case measure => simp [intOf]; omega
        · obtain rfl : b = k := by omega
          have hbb : ¬ (b : Int) < (b : Int) := by omega
          go_wp2_with fail
          go_roundw
          case rel => exact ⟨a + 1, T, by omega, by go_num, Lib.hid ⟨HS.out.1.next rfl, HS.out.2⟩⟩
          case measure => simp [intOf]; omega
    · obtain rfl : a = r := by omega
      have hbb : ¬ (a : Int) < (a : Int) := by omega
      obtain ⟨c0, c1, c2, c3, c4⟩ := cells5 HS.out.2.2.1
      obtain ⟨d0, d1, d2⟩ := cells3v HS.out.2.2.2.2.1
      obtain ⟨z0, z1, z2⟩ := cells3v HS.out.2.2.2.1
      obtain ⟨f0, f1, f2⟩ := frozen3v HS.out.2.2.2.1
      have HSt := Lib.hid (HS.out.2.2.2.1.store3v (.int .i64 a) (.int .i64 k) (.slice (some ⟨g, 0, none⟩) N N))
      have HRow := Lib.hid (show Blk (((wr.setCell ⟨z + 1, 0, none⟩ (.int .i64 a)).setCell ⟨z + 1, 1, none⟩ (.int .i64 k)).setCell ⟨z + 1, 2, none⟩ (.slice (some ⟨g, 0, none⟩) N N)) g 48 (f64s T).toArray from (((HS.out.2.1.other (p := ⟨z + 1, _, none⟩) (by simp; omega) (.int .i64 a)).other (p := ⟨z + 1, _, none⟩) (by simp; omega) (.int .i64 k)).other (p := ⟨z + 1, _, none⟩) (by simp; omega) (.slice (some ⟨g, 0, none⟩) N N)))
      have HBel := Lib.hid (show Below z w (((wr.setCell ⟨z + 1, 0, none⟩ (.int .i64 a)).setCell ⟨z + 1, 1, none⟩ (.int .i64 k)).setCell ⟨z + 1, 2, none⟩ (.slice (some ⟨g, 0, none⟩) N N)) from (((HS.out.2.2.2.2.2.setCell (p := ⟨z + 1, 0, none⟩) (by simp) (.int .i64 a)).setCell (p := ⟨z + 1, 1, none⟩) (by simp) (.int .i64 k)).setCell (p := ⟨z + 1, 2, none⟩) (by simp) (.slice (some ⟨g, 0, none⟩) N N)))
      go_wp2_with fail
      generalize (((wr.setCell ⟨z + 1, 0, none⟩ (.int .i64 a)).setCell ⟨z + 1, 1, none⟩ (.int .i64 k)).setCell ⟨z + 1, 2, none⟩ (.slice (some ⟨g, 0, none⟩) N N)) = W9 at *
      obtain ⟨j0, j1, j2⟩ := cells3v HSt.out
      rw [HZ.out]
      have ht := HS.out.1
      rw [HN.out] at ht
      refine bodyPost_ret (v := tbl a k g N N) (by simp [results, Try.results14, go_sem, j0, j1, j2, tbl]) rfl ⟨g, rfl, T, ht, HRow.out, by omega, HBel.out⟩
end Go.Proofs.Ytamndbeffbcppaa
/-
At: a number of a table. Conditions: as each says.
-/
set_option linter.unusedVariables false
namespace Go.Proofs.Ytamndbeffbcppaa
open Go.RowKit
attribute [local go_sem ↓] Go.wp_at_zero Go.wp_at_succ


theorem rat_any (r k : Int) (g n c : Nat) (T : List Nat) (i j p : Nat) (w : World) (hB : Row w (some ⟨g, 0, none⟩) (f64s T)) (hT : T.length = n) (hp : p < n) (hn : n < 9223372036854775808) (he : (i : Int) * k + (j : Int) = (p : Int)) (hm : I64 ((i : Int) * k)) :
    Calls Try.prog 46 #[tbl r k g n c, .int .i64 i, .int .i64 j] w fun e w' => e = .returned (.float .f64 (T.getD p 0)) ∧ Below w.heap.size w w' := by
  unfold I64 at hm
  have hpT : p < T.length := by omega
  obtain ⟨b, o, hbo, hlt, hc⟩ := hB.at_ (f64s_get T p hpT)
  injection hbo with hbo
  injection hbo with e1 e2 _
  subst e1 e2
  rw [Nat.zero_add] at hc
  have hv : T.getD p 0 = T[p] := getD_of_lt hpT
  rw [hv]
  obtain ⟨v, hv2⟩ : ∃ v, T[p] = v := ⟨_, rfl⟩
  rw [hv2] at hc
  rw [hv2]
  have hc2 := cell_below hc (below_one (W := w) (o := .cells #[.int .i64 r, .int .i64 k, .slice (some ⟨g, 0, none⟩) n c] 34))
  have w1 : IntKind.i64.wrap ((i : Int) * k) = (i : Int) * k := wrapi (by omega) (by omega)
  have w2 : IntKind.i64.wrap (p : Int) = (p : Int) := wrapi (by omega) (by omega)
  have hpn : (p : Int) < (n : Int) := by omega
  have hp0 : (0 : Int) ≤ (p : Int) := by omega
  clear hv hv2 hpT hc hB hT hlt
  unfold tbl
  go_enter Try.func46, Try.ntmps46
  go_wp2_with fail
  go_ret
  exact ⟨rfl, (Below.refl w.heap.size w).alloc (Nat.le_refl _) _⟩
end Go.Proofs.Ytamndbeffbcppaa
/-
The document's Rows of a table. Conditions: the table has at most 2^40 numbers.
-/
set_option linter.unusedVariables false
namespace Go.Proofs.Ytamndbeffbcppaa
open Go.RowKit
attribute [local go_sem ↓] Go.wp_at_zero Go.wp_at_succ

theorem tab_inj {C a b a' b' : Nat} (hb : b < C) (hb' : b' < C) (h : a * C + b = a' * C + b') : a = a' ∧ b = b' := by
  have h1 : (a * C + b) % C = b := by rw [Nat.mul_add_mod_self_right, Nat.mod_eq_of_lt hb]
  have h2 : (a' * C + b') % C = b' := by rw [Nat.mul_add_mod_self_right, Nat.mod_eq_of_lt hb']
  have e : b = b' := by rw [← h1, h, h2]
  subst e
  have hm : a * C = a' * C := by omega
  exact ⟨Nat.eq_of_mul_eq_mul_right (by omega) hm, rfl⟩
/-- The first q columns have changed rows i and k. -/
def Half (T : List Nat) (i k R C q : Nat) (T' : List Nat) : Prop := T'.length = T.length ∧ ∀ a, a < R → ∀ b, b < C → T'.getD (a * C + b) 0 = if b < q then T.getD (sw i k a * C + b) 0 else T.getD (a * C + b) 0
theorem Half.zero (T : List Nat) (i k R C : Nat) : Half T i k R C 0 T := ⟨rfl, fun a _ b _ => by simp⟩
theorem Half.step {T T' : List Nat} {i k R C q : Nat} (h : Half T i k R C q T') (hi : i < R) (hk : k < R) (hq : q < C) (hT : T.length = R * C) :
    Half T i k R C (q + 1) ((T'.set (i * C + q) (T'.getD (k * C + q) 0)).set (k * C + q) (T'.getD (i * C + q) 0)) := by
  refine ⟨by rw [List.length_set, List.length_set]; exact h.1, fun a ha b hb => ?_⟩
  have hli := tab_lt hi hq
  have hlk := tab_lt hk hq
  have hx := h.2 i hi q hq
  have hy := h.2 k hk q hq
  rw [if_neg (by omega)] at hx hy
  have hl := h.1
  by_cases e : b = q
  · subst e
    rw [if_pos (by omega)]
    by_cases e1 : a = k
    · subst e1
      rw [getD_set_self (by rw [List.length_set]; omega), hx]
      have : sw i a a = i := by
        unfold sw
        by_cases h2 : a = i
        · rw [if_pos h2]; exact h2
        · rw [if_neg h2, if_pos rfl]
      rw [this]
    · rw [getD_set_ne _ (fun e2 => e1 (tab_inj hq hq e2).1.symm)]
      by_cases e2 : a = i
      · subst e2
        rw [getD_set_self (by omega), hy]
        have : sw a k a = k := by unfold sw; rw [if_pos rfl]
        rw [this]
      · rw [getD_set_ne _ (fun e3 => e2 (tab_inj hq hq e3).1.symm), h.2 a ha b hb, if_neg (by omega)]
        have : sw i k a = a := by unfold sw; rw [if_neg e2, if_neg e1]
        rw [this]
  · rw [getD_set_ne _ (fun e2 => e (tab_inj hq hb e2).2.symm), getD_set_ne _ (fun e2 => e (tab_inj hq hb e2).2.symm), h.2 a ha b hb]
    by_cases h2 : b < q
    · rw [if_pos h2, if_pos (by omega)]
    · rw [if_neg h2, if_neg (by omega)]

theorem heldQ3 {W w' : World} {b0 o0 b1 o1 b2 o2 : Nat} {v0 v1 v2 : Value} {R : World → Prop} (h : W.cell? ⟨b0, o0, none⟩ = some v0 ∧ W.cell? ⟨b1, o1, none⟩ = some v1 ∧ W.cell? ⟨b2, o2, none⟩ = some v2 ∧ R W) (hb : Below W.heap.size W w') (hR : R W → R w') :
    w'.cell? ⟨b0, o0, none⟩ = some v0 ∧ w'.cell? ⟨b1, o1, none⟩ = some v1 ∧ w'.cell? ⟨b2, o2, none⟩ = some v2 ∧ R w' :=
  ⟨cell_below h.1 hb, cell_below h.2.1 hb, cell_below h.2.2.1 hb, hR h.2.2.2⟩
theorem heldS3 {W : World} {b0 o0 b1 o1 b2 o2 g j : Nat} {v0 v1 v2 : Value} {R : World → Prop} (u : Value) (h : W.cell? ⟨b0, o0, none⟩ = some v0 ∧ W.cell? ⟨b1, o1, none⟩ = some v1 ∧ W.cell? ⟨b2, o2, none⟩ = some v2 ∧ R W) (hR : R W → R (W.setCell ⟨g, j, none⟩ u)) (n0 : ¬ (b0 = g ∧ o0 = j)) (n1 : ¬ (b1 = g ∧ o1 = j)) (n2 : ¬ (b2 = g ∧ o2 = j)) :
    (W.setCell ⟨g, j, none⟩ u).cell? ⟨b0, o0, none⟩ = some v0 ∧ (W.setCell ⟨g, j, none⟩ u).cell? ⟨b1, o1, none⟩ = some v1 ∧ (W.setCell ⟨g, j, none⟩ u).cell? ⟨b2, o2, none⟩ = some v2 ∧ R (W.setCell ⟨g, j, none⟩ u) :=
  ⟨(cell_set2 n0 u).trans h.1, (cell_set2 n1 u).trans h.2.1, (cell_set2 n2 u).trans h.2.2.1, hR h.2.2.2⟩
set_option maxHeartbeats 1000000 in
theorem rrows_any (R C N g c i k : Nat) (T : List Nat) (w : World) (hB : Blk w g 48 (f64s T).toArray) (hT : T.length = N) (hN : R * C = N) (hNb : N ≤ 1048576) (hR : R < 1048576) (hC : C < 1048576) (hi : i < R) (hk : k < R) :
    Calls Try.prog 15 #[tbl R C g N c, .int .i64 i, .int .i64 k] w fun e w' => e = .returned (.tuple #[]) ∧ ∃ T', Blk w' g 48 (f64s T').toArray ∧ Half T i k R C C T' ∧ Chg [g] w w' := by
  have hgz := hB.lt
  have HI := Lib.hid (fun x q (hx : x < R) (hq : q < C) => show x * C + q < N ∧ I64 ((x : Int) * (C : Int)) ∧ (x : Int) * (C : Int) + (q : Int) = ((x * C + q : Nat) : Int) from by
    have h1 := tab_lt hx hq
    have e : (x : Int) * (C : Int) = ((x * C : Nat) : Int) := by simp
    rw [e]
    unfold I64
    omega)
  have HAt := Lib.hid (fun W (T' : List Nat) (hl : T'.length = N) (hB : Row W (some ⟨g, 0, none⟩) (f64s T')) (x q : Nat) (hx : x < R) (hq : q < C) => rat_any R C g N c T' x q (x * C + q) W hB hl (HI.out x q hx hq).1 (by omega) (HI.out x q hx hq).2.2 (HI.out x q hx hq).2.1)
  have HSe := Lib.hid (fun W (T' : List Nat) (hl : T'.length = N) (hB : Blk W g 48 (f64s T').toArray) (x q v : Nat) (hx : x < R) (hq : q < C) => rset_any R C g N c T' x q (x * C + q) v W hB hl (HI.out x q hx hq).1 (by omega) (HI.out x q hx hq).2.2 (HI.out x q hx hq).2.1)
  have HB0 := Lib.hid hB
  have Ht := Lib.hid hT
  have Hn := Lib.hid hN
  have Hi := Lib.hid hi
  have Hk := Lib.hid hk
  clear hB hT hN hi hk
  unfold tbl at *
  go_enter Try.func15, Try.ntmps15
  have HZ := Lib.hid (Blk.new w 34 #[.int .i64 R, .int .i64 C, .slice (some ⟨g, 0, none⟩) N c])
  have HBl := Lib.hid (below_one (W := w) (o := (.cells #[.int .i64 R, .int .i64 C, .slice (some ⟨g, 0, none⟩) N c] 34)))
  go_wp2_with fail
  generalize hzz : w.heap.size = z at *
  have Hz := Lib.hid hzz
  clear hzz
  go_loopw [6] (fun a wr => ∃ (q : Nat) (T' : List Nat), q ≤ C ∧ a = .int .i64 q ∧ Blk wr g 48 (f64s T').toArray ∧ Half T i k R C q T' ∧ Chg [g] w wr ∧ Blk wr z 34 #[.int .i64 R, .int .i64 C, .slice (some ⟨g, 0, none⟩) N c]) (fun a _ => C - (intOf a).toNat)
  case atStart => exact ⟨0, T, Nat.zero_le _, rfl, HB0.out.alloc _, Half.zero _ _ _ _ _, .of_below (by rw [Hz.out]; exact HBl.out), HZ.out⟩
  case round =>
    obtain ⟨q, T', hq, rfl, hb1, hh1, hc1, hz1⟩ := hrel
    have HB1 := Lib.hid hb1
    have HH1 := Lib.hid hh1
    have HC1 := Lib.hid hc1
    have HZ1 := Lib.hid hz1
    clear hb1 hh1 hc1 hz1
    obtain ⟨c0, c1, c2⟩ := cells3v HZ1.out
    by_cases hlt : q < C
    · have hl1 : T'.length = N := by rw [HH1.out.1, Ht.out]
      have HA2 := Lib.hid (fun W (hb : Below wr.heap.size wr W) (x : Nat) (u : Nat) (h : (x = i ∧ u = T'.getD (i * C + q) 0) ∨ (x = k ∧ u = T'.getD (k * C + q) 0)) =>
        show Calls Try.prog 46 #[.agg #[.int .i64 R, .int .i64 C, .slice (some ⟨g, 0, none⟩) N c], .int .i64 x, .int .i64 q] W fun e w' => e = .returned (.float .f64 u) ∧ Below W.heap.size W w' from by
          rcases h with ⟨rfl, rfl⟩ | ⟨rfl, rfl⟩
          · exact HAt.out W T' hl1 ((row_of_blk HB1.out).below hb) _ q Hi.out hlt
          · exact HAt.out W T' hl1 ((row_of_blk HB1.out).below hb) _ q Hk.out hlt)
      have hstep := HH1.out.step Hi.out Hk.out hlt (by rw [Ht.out, Hn.out])
      obtain ⟨x, hx⟩ : ∃ x, T'.getD (i * C + q) 0 = x := ⟨_, rfl⟩
      obtain ⟨y, hy⟩ : ∃ y, T'.getD (k * C + q) 0 = y := ⟨_, rfl⟩
      rw [hx, hy] at HA2 hstep
      have HStp := Lib.hid hstep
      have Hl1 := Lib.hid hl1
      have HLt := Lib.hid hlt
      have hqc : (q : Int) < (C : Int) := by omega
      clear hstep hx hy hl1
      go_wp2_with fail
      go_region_held3 (fun w' => w'.cell? ⟨z, 0, none⟩ = some (.int .i64 R) ∧ w'.cell? ⟨z, 1, none⟩ = some (.int .i64 C) ∧ w'.cell? ⟨z, 2, none⟩ = some (.slice (some ⟨g, 0, none⟩) N c) ∧ Below wr.heap.size wr w')
        (first | exact ⟨c0, c1, c2, (Below.refl _ wr).drew⟩ | exact heldQ3 ‹_ ∧ _ ∧ _ ∧ Below wr.heap.size wr _› hbA (fun h => h.trans (hbA.mono h.size)))
        ((go_at_call 46; refine (HA2.out _ (‹_ ∧ _ ∧ _ ∧ Below wr.heap.size wr _›).2.2.2 _ _ (by first | exact .inl ⟨rfl, rfl⟩ | exact .inr ⟨rfl, rfl⟩)).mono ?_; rintro e1 wA ⟨rfl, hbA⟩; skip))
      have hbw := (‹_ ∧ _ ∧ _ ∧ Below wr.heap.size wr _›).2.2.2
      clear c0 c1 c2
      have HB2 := Lib.hid (HB1.out.nxt hbw)
      have HZ2 := Lib.hid (HZ1.out.nxt hbw)
      have HC2 := Lib.hid (HC1.out.nxt hbw)
      clear hbw
      obtain ⟨c0, c1, c2⟩ := cells3v HZ2.out
      go_wp2_with fail
      refine (HSe.out _ T' Hl1.out HB2.out i q y Hi.out HLt.out).mono ?_
      rintro e w3 ⟨rfl, hb3, hO3⟩
      have hzg : z ≠ g := by omega
      have HB3 := Lib.hid hb3
      have HZ3 := Lib.hid (hO3.blk hzg HZ2.out)
      have HC3 := Lib.hid (HC2.out.trans (.of_only hO3 (by simp)))
      clear hb3 hO3 c0 c1 c2
      obtain ⟨c0, c1, c2⟩ := cells3v HZ3.out
      go_wp2_with fail
      refine (HSe.out _ _ (by rw [List.length_set]; exact Hl1.out) HB3.out k q x Hk.out HLt.out).mono ?_
      rintro e w4 ⟨rfl, hb4, hO4⟩
      have HB4 := Lib.hid hb4
      have HZ4 := Lib.hid (hO4.blk hzg HZ3.out)
      have HC4 := Lib.hid (HC3.out.trans (.of_only hO4 (by simp)))
      clear hb4 hO4 c0 c1 c2
      go_wp2_with fail
      go_roundw
      case rel => exact ⟨q + 1, _, by omega, by go_num, HB4.out, HStp.out, HC4.out, HZ4.out⟩
      case measure => simp [intOf]; omega
    · obtain rfl : q = C := by omega
      have hqc : ¬ (q : Int) < (q : Int) := by omega
      go_wp2_with fail
      go_end0
      exact ⟨rfl, T', HB1.out, HH1.out, HC1.out⟩
end Go.Proofs.Ytamndbeffbcppaa
/-
The document's Take of a table. Conditions: the table has at most 2^20 numbers.
-/
set_option linter.unusedVariables false
namespace Go.Proofs.Ytamndbeffbcppaa
open Go.RowKit
attribute [local go_sem ↓] Go.wp_at_zero Go.wp_at_succ

/-- The table's rows stand as the first q changes of the order have it. -/
def Prm (T : List Nat) (zs : List Int) (R C q : Nat) (T' : List Nat) : Prop := T'.length = T.length ∧ ∀ a, a < R → ∀ b, b < C → T'.getD (a * C + b) 0 = T.getD (prm zs q a * C + b) 0
theorem Prm.step {T T' T2 : List Nat} {zs : List Int} {R C q j : Nat} (h : Prm T zs R C q T') (h2 : Half T' q j R C C T2) (hq : q < R) (hj : j < R) (e : ∀ a, prm zs (q + 1) a = prm zs q (sw q j a)) : Prm T zs R C (q + 1) T2 :=
  ⟨h2.1.trans h.1, fun a ha b hb => by
    rw [h2.2 a ha b hb, if_pos hb, h.2 _ (sw_lt hq hj ha) b hb, e]⟩

theorem heldG4 {W w' : World} {G : List Nat} {b0 o0 b1 o1 b2 o2 b3 o3 : Nat} {v0 v1 v2 v3 : Value} {R : World → Prop} (h : W.cell? ⟨b0, o0, none⟩ = some v0 ∧ W.cell? ⟨b1, o1, none⟩ = some v1 ∧ W.cell? ⟨b2, o2, none⟩ = some v2 ∧ W.cell? ⟨b3, o3, none⟩ = some v3 ∧ R W) (hc : Chg G W w') (n0 : b0 ∉ G) (n1 : b1 ∉ G) (n2 : b2 ∉ G) (n3 : b3 ∉ G) (hR : R W → R w') :
    w'.cell? ⟨b0, o0, none⟩ = some v0 ∧ w'.cell? ⟨b1, o1, none⟩ = some v1 ∧ w'.cell? ⟨b2, o2, none⟩ = some v2 ∧ w'.cell? ⟨b3, o3, none⟩ = some v3 ∧ R w' :=
  ⟨hc.cell n0 h.1, hc.cell n1 h.2.1, hc.cell n2 h.2.2.1, hc.cell n3 h.2.2.2.1, hR h.2.2.2.2⟩
set_option maxHeartbeats 1000000 in
theorem rtake_ok (R C N g c : Nat) (T : List Nat) (B : Option Addr) (m d : Nat) (zs : List Int) (w : World) (hB : Blk w g 48 (f64s T).toArray) (hT : T.length = N) (hN : R * C = N) (hNb : N ≤ 1048576) (hR : R < 1048576) (hC : C < 1048576)
    (hZ : Row w B (i64s zs)) (hBg : ∀ b x, B = some ⟨b, x, none⟩ → zs ≠ [] → b ≠ g) (hm : zs.length = m) (hmR : m ≤ R) (hz : OrdOk R zs m) :
    Calls Try.prog 16 #[tbl R C g N c, .slice B m d] w fun e w' => e = .returned (.int .i64 0) ∧ ∃ T', Blk w' g 48 (f64s T').toArray ∧ Prm T zs R C m T' ∧ Chg [g] w w' := by
  have hgz := hB.lt
  have HRs := Lib.hid (fun W (T' : List Nat) (hl : T'.length = N) (hB : Blk W g 48 (f64s T').toArray) (i k : Nat) (hi : i < R) (hk : k < R) => rrows_any R C N g c i k T' W hB hl hN hNb hR hC hi hk)
  have HB0 := Lib.hid hB
  have Ht := Lib.hid hT
  have HZ := Lib.hid hZ
  have HBg := Lib.hid hBg
  have HM := Lib.hid hm
  have HOk := Lib.hid hz
  have hmr : ¬ (R : Int) < (m : Int) := by omega
  clear hB hT hN hNb hZ hBg hm hz
  unfold tbl at *
  go_enter Try.func16, Try.ntmps16
  have HX := Lib.hid (Blk.new w 34 #[.int .i64 R, .int .i64 C, .slice (some ⟨g, 0, none⟩) N c])
  have HBl := Lib.hid (below_one (W := w) (o := (.cells #[.int .i64 R, .int .i64 C, .slice (some ⟨g, 0, none⟩) N c] 34)))
  go_wp2_with fail
  generalize hzz : w.heap.size = z at *
  have Hz := Lib.hid hzz
  clear hzz
  go_loopw [5] (fun a wr => ∃ q : Nat, q ≤ m ∧ a = .int .i64 q ∧ Below z w wr ∧ Blk wr z 34 #[.int .i64 R, .int .i64 C, .slice (some ⟨g, 0, none⟩) N c] ∧ Blk wr g 48 (f64s T).toArray) (fun a _ => m - (intOf a).toNat)
  case atStart => exact ⟨0, Nat.zero_le _, rfl, HBl.out, HX.out, HB0.out.alloc _⟩
  case round =>
    obtain ⟨q, hq, rfl, hb1, hx1, hg1⟩ := hrel
    have HB1 := Lib.hid hb1
    have HX1 := Lib.hid hx1
    have HG1 := Lib.hid hg1
    clear hb1 hx1 hg1
    obtain ⟨c0, c1, c2⟩ := cells3v HX1.out
    by_cases hlt : q < m
    · have hql : q < zs.length := by rw [HM.out]; exact hlt
      obtain ⟨b, o, rfl, _, hcell0⟩ := HZ.out.at_ (i64s_get zs q hql)
      have hcell := cell_below hcell0 (show Below w.heap.size w wr by rw [Hz.out]; exact HB1.out)
      have hzq := HOk.out q hql hlt
      obtain ⟨j, hj⟩ : ∃ j, zs[q] = j := ⟨_, rfl⟩
      rw [hj] at hcell hzq
      have d1 : decide (j < (q : Int)) = false := by simp; omega
      have d2 : decide ((R : Int) ≤ j) = false := by simp; omega
      have hlt2 : (q : Int) < (m : Int) := by omega
      have HBd := Lib.hid HB1.out
      clear hcell0 hj
      go_wp2_with fail
      go_quiet (fail)
      go_wp2_with fail
      go_roundw
      case rel => exact ⟨q + 1, by omega, by go_num, below_drewN HB1.out _, HX1.out, HG1.out⟩
      case measure => simp [intOf]; omega
    · obtain rfl : q = m := by omega
      go_wp2_with fail
      go_loopw [6] (fun a w2 => ∃ (t : Nat) (T' : List Nat), t ≤ q ∧ a = .int .i64 t ∧ Blk w2 g 48 (f64s T').toArray ∧ Prm T zs R C t T' ∧ Chg [g] w w2 ∧ Blk w2 z 34 #[.int .i64 R, .int .i64 C, .slice (some ⟨g, 0, none⟩) N c]) (fun a _ => q - (intOf a).toNat)
      case atStart => exact ⟨0, T, Nat.zero_le _, rfl, HG1.out, ⟨rfl, fun a _ b _ => rfl⟩, .of_below (by rw [Hz.out]; exact HB1.out), HX1.out⟩
      case round =>
        clear c0 c1 c2
        obtain ⟨t, T', ht, rfl, hb2, hp2, hc2, hx2⟩ := hrel
        have HB2 := Lib.hid hb2
        have HP2 := Lib.hid hp2
        have HC2 := Lib.hid hc2
        have HX2 := Lib.hid hx2
        clear hb2 hp2 hc2 hx2
        obtain ⟨c0, c1, c2⟩ := cells3v HX2.out
        by_cases hlt2 : t < q
        · have hql : t < zs.length := by rw [HM.out]; exact hlt2
          obtain ⟨b, o, rfl, _, hcell0⟩ := HZ.out.at_ (i64s_get zs t hql)
          have hbg : b ∉ [g] := by rw [List.mem_singleton]; exact HBg.out b o rfl (by rintro rfl; cases hql)
          have hcell := HC2.out.cell hbg hcell0
          have hzq := HOk.out t hql hlt2
          obtain ⟨j, hj⟩ : ∃ j : Nat, zs[t] = j := ⟨zs[t].toNat, by omega⟩
          rw [hj] at hcell hzq
          have hstep : ∀ a, prm zs (t + 1) a = prm zs t (sw t j a) := fun a => by
            rw [prm]
            have e : zs.getD t 0 = zs[t] := by simp [List.getD, hql]
            rw [e, hj]; rfl
          have HSt := Lib.hid hstep
          have hjR : j < R := by omega
          have htR : t < R := by omega
          have HRs1 := Lib.hid (fun W (hB : Blk W g 48 (f64s T').toArray) => HRs.out W T' (by rw [HP2.out.1, Ht.out]) hB t j htR hjR)
          have hlt3 : (t : Int) < (q : Int) := by omega
          have HBd := Lib.hid HB2.out.drew
          have HCd := Lib.hid HC2.out.drew
          have HBg2 := Lib.hid hbg
          have hzg : z ∉ [g] := by rw [List.mem_singleton]; omega
          have HZg := Lib.hid hzg
          clear hcell0 hj hstep hzq hbg hzg
          go_wp2_with fail
          go_region_held3 (fun w' => w'.cell? ⟨z, 0, none⟩ = some (.int .i64 R) ∧ w'.cell? ⟨z, 1, none⟩ = some (.int .i64 C) ∧ w'.cell? ⟨z, 2, none⟩ = some (.slice (some ⟨g, 0, none⟩) N c) ∧ w'.cell? ⟨b, o + t, none⟩ = some (.int .i64 j) ∧ True)
            (first | exact ⟨c0, c1, c2, hcell, trivial⟩ | exact heldG4 (R := fun _ => True) ‹_ ∧ _ ∧ _ ∧ _ ∧ True› hcA HZg.out HZg.out HZg.out HBg2.out (fun _ => trivial))
            ((go_at_call 15; refine (HRs1.out _ HBd.out).mono ?_; rintro e1 wA ⟨rfl, T2, hb3, hh3, hcA⟩; skip))
          have HB3 := Lib.hid hb3
          have HP3 := Lib.hid (HP2.out.step hh3 htR hjR HSt.out)
          have HC3 := Lib.hid (HCd.out.trans hcA)
          have HX3 := Lib.hid (hcA.blk HZg.out HX2.out)
          clear hb3 hh3 hcA c0 c1 c2 hcell
          go_wp2_with fail
          go_roundw
          case rel => exact ⟨t + 1, T2, by omega, by go_num, HB3.out, HP3.out, HC3.out, HX3.out⟩
          case measure => simp [intOf]; omega
        · obtain rfl : t = q := by omega
          go_wp2_with fail
          go_ret
          exact ⟨rfl, T', HB2.out, HP2.out, HC2.out⟩
end Go.Proofs.Ytamndbeffbcppaa
/-
The document's Into: a list with a table at a matrix' places. Conditions: the matrix is right, its list and the table have at most 2^20 numbers.
-/
set_option linter.unusedVariables false
set_option linter.unusedSimpArgs false
namespace Go.Proofs.Ytamndbeffbcppaa
open Go.RowKit
attribute [local go_sem ↓] Go.wp_at_zero Go.wp_at_succ

/-- The list has the table T at the matrix' first places, by rows, and is else as it was. -/
def Pim (l : List Nat) (o R C L : Nat) (T : Nat → Nat → Nat) (a b : Nat) (l' : List Nat) : Prop :=
  l'.length = l.length ∧ (∀ i, i < R → ∀ j, j < C → l'.getD (o + i + j * L) 0 = if i < a ∨ (i = a ∧ j < b) then T i j else l.getD (o + i + j * L) 0) ∧ ∀ x, (∀ i, i < R → ∀ j, j < C → x ≠ o + i + j * L) → l'.getD x 0 = l.getD x 0
theorem Pim.zero (l : List Nat) (o R C L : Nat) (T : Nat → Nat → Nat) : Pim l o R C L T 0 0 l := ⟨rfl, fun i _ j _ => by rw [if_neg (by omega)], fun _ _ => rfl⟩
theorem Pim.next {l l' : List Nat} {o R C L : Nat} {T : Nat → Nat → Nat} {a : Nat} (h : Pim l o R C L T a C l') : Pim l o R C L T (a + 1) 0 l' :=
  ⟨h.1, fun i hi j hj => by
    rw [h.2.1 i hi j hj]
    by_cases e : i < a ∨ (i = a ∧ j < C)
    · rw [if_pos e, if_pos (by omega)]
    · rw [if_neg e, if_neg (by omega)], h.2.2⟩
theorem Pim.done {l l' : List Nat} {o R C L : Nat} {T : Nat → Nat → Nat} (h : Pim l o R C L T R 0 l') : Img l o R C L T l' :=
  ⟨h.1, fun i hi j hj => by rw [h.2.1 i hi j hj, if_pos (.inl hi)], h.2.2⟩
theorem Pim.step {l l' : List Nat} {o R C L : Nat} {T : Nat → Nat → Nat} {a b : Nat} (h : Pim l o R C L T a b l') (hR : R ≤ L) (ha : a < R) (hb : b < C) (hP : o + a + b * L < l.length) : Pim l o R C L T a (b + 1) (l'.set (o + a + b * L) (T a b)) := by
  refine ⟨by rw [List.length_set]; exact h.1, fun i hi j hj => ?_, fun x hx => ?_⟩
  · by_cases e : i = a ∧ j = b
    · obtain ⟨rfl, rfl⟩ := e
      rw [getD_set_self (by rw [h.1]; exact hP), if_pos (by omega)]
    · rw [getD_set_ne _ (fun e2 => e (by
        have := spots_inj (L := L) (a := a) (b := b) (a' := i) (b' := j) (by omega) (by omega) (by omega)
        exact ⟨this.1.symm, this.2.symm⟩)), h.2.1 i hi j hj]
      by_cases e1 : i < a ∨ (i = a ∧ j < b)
      · rw [if_pos e1, if_pos (by omega)]
      · rw [if_neg e1, if_neg (by omega)]
  · rw [getD_set_ne _ (fun e => hx a ha b hb e.symm), h.2.2 x hx]
/-- What Into comes to. -/
def Intod (n : Nat) (l : List Nat) (o R C L : Nat) (T : List Nat) (w : World) (e : Ending) (w' : World) : Prop := ∃ g c' l', e = .returned (.slice (some ⟨g, 0, none⟩) n c') ∧ Own w' g l' ∧ Img l o R C L (fun a b => T.getD (a * C + b) 0) l' ∧ w.heap.size ≤ g ∧ Below w.heap.size w w'
set_option maxRecDepth 100000 in
set_option maxHeartbeats 2000000 in
theorem rinto_some (a : Addr) (n c : Nat) (l : List Nat) (o R C L gT N cT : Nat) (T : List Nat) (w : World) (hA : Row w (some a) (f64s l)) (hT : Row w (some ⟨gT, 0, none⟩) (f64s T)) (hl : l.length = n) (hn : n ≤ 1048576) (hTl : T.length = N) (hN : R * C = N) (hNb : N ≤ 1048576) (hRb : R < 1048576) (hCb : C < 1048576) (hgT : N ≠ 0 → gT < w.heap.size)
    (hL : 1 ≤ L) (hR : R ≤ L) (hr : R = 0 ∨ C = 0 ∨ o + (C - 1) * L + (R - 1) < n) :
    Calls Try.prog 17 #[mat (some a) n c o R C L, tbl R C gT N cT] w fun e w' => Intod n l o R C L T w e w' := by
  have HIn := Lib.hid (fun i j (hi : i < R) (hj : j < C) => show o + i + j * L < n from by
    have h1 : j * L ≤ (C - 1) * L := Nat.mul_le_mul_right _ (by omega)
    omega)
  have HI := Lib.hid (fun x q (hx : x < R) (hq : q < C) => show x * C + q < N ∧ I64 ((x : Int) * (C : Int)) ∧ (x : Int) * (C : Int) + (q : Int) = ((x * C + q : Nat) : Int) from by
    have h1 := tab_lt hx hq
    have e : (x : Int) * (C : Int) = ((x * C : Nat) : Int) := by simp
    rw [e]
    unfold I64
    omega)
  have HAt := Lib.hid (fun W (hB : Row W (some ⟨gT, 0, none⟩) (f64s T)) (x q : Nat) (hx : x < R) (hq : q < C) => rat_any R C gT N cT T x q (x * C + q) W hB hTl (HI.out x q hx hq).1 (by omega) (HI.out x q hx hq).2.2 (HI.out x q hx hq).2.1)
  have HTr := Lib.hid hT
  have HA := Lib.hid hA
  have Hl := Lib.hid hl
  have HRL := Lib.hid hR
  have HgT := Lib.hid hgT
  obtain ⟨i0, hi, hz0, hz1, hz2⟩ := fi0
  clear hT hgT hTl hN hr
  unfold mat tbl at *
  go_enter Try.func17, Try.ntmps17
  go_wp2_with (at_builtin; refine wpList_append_own _ rfl _ _ 22 rfl (w.heap.size + 1 + 1) 48 i0 (.float .f64 0) 1 8 Try.underlying22 hi hz0 hz1 hz2 rfl (by decide) _ _ _ rfl (own_empty_ _ _ (by simp)) a n c (f64s l) rfl (by simp [f64s, hl]) ?c1 (one_cells l) ?c3 ?c4 ?c5 ?_)
  case c1 => exact row_add (HA.out.below ((((Below.refl _ _).alloc (Nat.le_refl _) _).alloc (by simp) _).alloc (by simp; omega) _))
  case c3 => unfold maxLen; omega
  case c4 => omega
  case c5 => simp
  intro v' w' hown hgrow hne
  obtain ⟨g, c', rfl, hg, hc, hm, ho⟩ := own_of hown hne hl.symm
  have hO : Only (w.heap.size + 1 + 1) (((w.alloc (.cells #[.slice (some a) n c, .int .i64 o, .int .i64 R, .int .i64 C, .int .i64 L] 24)).alloc (.cells #[.int .i64 R, .int .i64 C, .slice (some ⟨gT, 0, none⟩) N cT] 34)).alloc (.cells #[] 48)) w' := hgrow
  have HB := Lib.hid (((((Below.refl w.heap.size w).alloc (Nat.le_refl _) (.cells #[.slice (some a) n c, .int .i64 o, .int .i64 R, .int .i64 C, .int .i64 L] 24)).alloc (by simp) (.cells #[.int .i64 R, .int .i64 C, .slice (some ⟨gT, 0, none⟩) N cT] 34)).alloc (by simp; omega) (.cells #[] 48)).grown hgrow (by simp; omega) (fun k hk => by simp [Value.ownBlock] at hk; omega))
  have HZ := Lib.hid (hO.blk (by omega) (((Blk.new w 24 #[.slice (some a) n c, .int .i64 o, .int .i64 R, .int .i64 C, .int .i64 L]).alloc (.cells #[.int .i64 R, .int .i64 C, .slice (some ⟨gT, 0, none⟩) N cT] 34)).alloc (.cells #[] 48)))
  have HX := Lib.hid (hO.blk (by omega) ((Blk.new_ (w.alloc (.cells #[.slice (some a) n c, .int .i64 o, .int .i64 R, .int .i64 C, .int .i64 L] 24)) 34 #[.int .i64 R, .int .i64 C, .slice (some ⟨gT, 0, none⟩) N cT] (w.heap.size + 1) (by simp)).alloc (.cells #[] 48)))
  have HO := Lib.hid ho
  clear ho hgrow hown hO hA hl
  generalize hzz : w.heap.size = z at *
  have Hz := Lib.hid hzz
  clear hzz
  go_wp2_with fail
  go_loopw [6] (fun i wr => ∃ (a1 : Nat) (l1 : List Nat), a1 ≤ R ∧ i = .int .i64 (a1 : Int) ∧ Hid (Pim l o R C L (fun a b => T.getD (a * C + b) 0) a1 0 l1 ∧ Own wr g l1 ∧ Blk wr z 24 #[.slice (some a) n c, .int .i64 o, .int .i64 R, .int .i64 C, .int .i64 L] ∧ Blk wr (z + 1) 34 #[.int .i64 R, .int .i64 C, .slice (some ⟨gT, 0, none⟩) N cT] ∧ Below z w wr)) (fun i _ => R - (intOf i).toNat)
  case atStart => exact ⟨0, l, Nat.zero_le _, rfl, Lib.hid ⟨Pim.zero _ _ _ _ _ _, HO.out, HZ.out, HX.out, HB.out⟩⟩
  case round =>
    obtain ⟨a1, l1, har, rfl, HS⟩ := hrel
    obtain ⟨d0, d1, d2⟩ := cells3v HS.out.2.2.2.1
    by_cases hlt : a1 < R
    · have har2 : (a1 : Int) < (R : Int) := by omega
      have ha1 : a1 + 1 ≤ 1048576 := by omega
      go_wp2_with fail
      clear d0 d1 d2
      go_loopw [7] (fun i wr => ∃ (b1 : Nat) (l1 : List Nat), b1 ≤ C ∧ i = .int .i64 (b1 : Int) ∧ Hid (Pim l o R C L (fun a b => T.getD (a * C + b) 0) a1 b1 l1 ∧ Own wr g l1 ∧ Blk wr z 24 #[.slice (some a) n c, .int .i64 o, .int .i64 R, .int .i64 C, .int .i64 L] ∧ Blk wr (z + 1) 34 #[.int .i64 R, .int .i64 C, .slice (some ⟨gT, 0, none⟩) N cT] ∧ Below z w wr)) (fun i _ => C - (intOf i).toNat)
      case atStart => exact ⟨0, l1, Nat.zero_le _, rfl, HS⟩
      case round =>
        obtain ⟨b1, l1, hbk, rfl, HS⟩ := hrel
        obtain ⟨d0, d1, d2⟩ := cells3v HS.out.2.2.2.1
        by_cases hlt2 : b1 < C
        · obtain ⟨c0, c1, c2, c3, c4⟩ := cells5 HS.out.2.2.1
          have hs := HIn.out a1 b1 hlt hlt2
          have hstep := HS.out.1.step HRL.out hlt hlt2 (by rw [Hl.out]; exact hs)
          have hPl : o + a1 + b1 * L < l1.length := by rw [HS.out.1.1, Hl.out]; exact hs
          have HAv := Lib.hid (fun W (hB : Row W (some ⟨gT, 0, none⟩) (f64s T)) => HAt.out W hB a1 b1 hlt hlt2)
          have hN0 : N ≠ 0 := by have := (HI.out a1 b1 hlt hlt2).1; omega
          have hgz : gT < z := HgT.out hN0
          obtain ⟨v, hv⟩ : ∃ v, T.getD (a1 * C + b1) 0 = v := ⟨_, rfl⟩
          obtain ⟨m, hm⟩ : ∃ m, b1 * L = m := ⟨_, rfl⟩
          obtain ⟨u, hu⟩ : ∃ u, o + a1 = u := ⟨_, rfl⟩
          have e1 : (b1 : Int) * (L : Int) = (m : Int) := by rw [← hm]; simp
          have e2 : (o : Int) + (a1 : Int) = (u : Int) := by omega
          obtain ⟨P, hPd⟩ : ∃ P, u + m = P := ⟨_, rfl⟩
          have e3 : (u : Int) + (m : Int) = (P : Int) := by omega
          rw [hm, hu, hPd] at hs hstep hPl
          simp only [hv] at hstep
          rw [hv] at HAv
          have hcP := HS.out.2.1.get P hPl
          have hfP := HS.out.2.1.frozen P
          generalize l1[P] = u0 at *
          have w1' : IntKind.i64.wrap (u : Int) = (u : Int) := wrapi (by omega) (by omega)
          have w2' : IntKind.i64.wrap (m : Int) = (m : Int) := wrapi (by omega) (by omega)
          have w3' : IntKind.i64.wrap (P : Int) = (P : Int) := wrapi (by omega) (by omega)
          have e4 : (P : Int) < (n : Int) := by omega
          have e5 : (b1 : Int) < (C : Int) := by omega
          have hb1 : b1 + 1 ≤ 1048576 := by omega
          have HStep := Lib.hid hstep
          have HPl := Lib.hid hPl
          have HM0 := Lib.hid (Mid.start (s' := upd (fun _ => l1) g (((fun _ => l1) g).set P v)) (has_one HS.out.2.1).drew (Chg.refl [g] wr).drew)
          have HTw := Lib.hid (fun W (hc : Chg [g] wr W) => hc.row (A := some ⟨gT, 0, none⟩) (fun b x e => by injection e with e; injection e with e _; subst e; rw [List.mem_singleton]; omega) (HTr.out.below (show Below w.heap.size w wr by rw [Hz.out]; exact HS.out.2.2.2.2)))
          have HG1 := Lib.hid (show g ∈ [g] by simp)
          have hzg : z ≠ g := by omega
          have hzg1 : z + 1 ≠ g := by omega
          have HZg := Lib.hid (show w.heap.size ≤ g by rw [Hz.out]; omega)
          have HNg := Lib.hid (show z ∉ [g] ∧ z + 1 ∉ [g] by simp; omega)
          clear hs hstep hPl hv hm hu hPd hcP hfP hN0 hgz
          go_wp2_with fail
          go_region_held3 (fun w' => w'.cell? ⟨z, 0, none⟩ = some (.slice (some a) n c) ∧ w'.cell? ⟨z, 1, none⟩ = some (.int .i64 o) ∧ w'.cell? ⟨z, 2, none⟩ = some (.int .i64 R) ∧ w'.cell? ⟨z, 3, none⟩ = some (.int .i64 C) ∧ w'.cell? ⟨z, 4, none⟩ = some (.int .i64 L) ∧ w'.cell? ⟨z + 1, 0, none⟩ = some (.int .i64 R) ∧ w'.cell? ⟨z + 1, 1, none⟩ = some (.int .i64 C) ∧ w'.cell? ⟨z + 1, 2, none⟩ = some (.slice (some ⟨gT, 0, none⟩) N cT) ∧ Mid [g] wr (fun _ => l1) (upd (fun _ => l1) g (((fun _ => l1) g).set P v)) w')
            (first | exact ⟨c0, c1, c2, c3, c4, d0, d1, d2, HM0.out⟩ | exact heldQ8 ‹_ ∧ _ ∧ _ ∧ _ ∧ _ ∧ _ ∧ _ ∧ _ ∧ Mid _ _ _ _ _› hbA (fun k => k.nxt hbA) | exact heldS8 _ ‹_ ∧ _ ∧ _ ∧ _ ∧ _ ∧ _ ∧ _ ∧ _ ∧ Mid _ _ _ _ _› (fun k => k.stored HG1.out HPl.out) (fun e => hzg e.1) (fun e => hzg e.1) (fun e => hzg e.1) (fun e => hzg e.1) (fun e => hzg e.1) (fun e => hzg1 e.1) (fun e => hzg1 e.1) (fun e => hzg1 e.1))
            (first
              | (go_at_call 46; refine (HAv.out _ (HTw.out _ ((‹_ ∧ _ ∧ _ ∧ _ ∧ _ ∧ _ ∧ _ ∧ _ ∧ Mid _ _ _ _ _›).2.2.2.2.2.2.2.2).1)).mono ?_; rintro e1 wA ⟨rfl, hbA⟩; obtain ⟨u9, r0, r1⟩ := ((‹_ ∧ _ ∧ _ ∧ _ ∧ _ ∧ _ ∧ _ ∧ _ ∧ Mid _ _ _ _ _›).2.2.2.2.2.2.2.2).there HG1.out HPl.out; have r2 := cell_below r0 hbA; have r3 := (hbA.frozen (p := ⟨g, P, none⟩) (block_lt r0)).trans r1; clear r0 r1; skip))
          obtain ⟨hs2, hc2⟩ := ((‹_ ∧ _ ∧ _ ∧ _ ∧ _ ∧ _ ∧ _ ∧ _ ∧ Mid _ _ _ _ _›).2.2.2.2.2.2.2.2).done HG1.out HPl.out r2
          have HS2 := Lib.hid (show Own _ g (l1.set P v) by have h := hs2 g HG1.out; rw [upd_self] at h; exact h)
          have HC2 := Lib.hid hc2
          have HZ2 := Lib.hid (hc2.blk HNg.out.1 HS.out.2.2.1)
          have HX2 := Lib.hid (hc2.blk HNg.out.2 HS.out.2.2.2.1)
          have HB2 := Lib.hid (show Below z w _ from hc2.below HS.out.2.2.2.2 (Nat.le_of_lt HS.out.2.2.1.lt) (fun x hx => by rw [List.mem_singleton] at hx; omega))
          clear hs2 hc2 c0 c1 c2 c3 c4 d0 d1 d2 r2 r3
          go_wp2_with fail
          go_roundw
          case rel => exact ⟨b1 + 1, l1.set P v, by omega, by go_num, Lib.hid ⟨HStep.out, HS2.out, HZ2.out, HX2.out, HB2.out⟩⟩
          case measure => simp [intOf]; omega
        · obtain rfl : b1 = C := by omega
          have hbb : ¬ (b1 : Int) < (b1 : Int) := by omega
          go_wp2_with fail
          go_roundw
          case rel => exact ⟨a1 + 1, l1, by omega, by go_num, Lib.hid ⟨HS.out.1.next, HS.out.2⟩⟩
          case measure => simp [intOf]; omega
    · obtain rfl : a1 = R := by omega
      have hbb : ¬ (a1 : Int) < (a1 : Int) := by omega
      go_wp2_with fail
      go_ret
      exact ⟨g, c', l1, rfl, HS.out.2.1, HS.out.1.done, by have := Hz.out; omega, by rw [Hz.out]; exact HS.out.2.2.2.2⟩
set_option maxRecDepth 100000 in
set_option maxHeartbeats 2000000 in
theorem rinto_nil (c : Nat) (l : List Nat) (o R C L gT N cT : Nat) (T : List Nat) (w : World) (hA : Row w none (f64s l)) (hT : Row w (some ⟨gT, 0, none⟩) (f64s T)) (hl : l.length = 0) (hTl : T.length = N) (hN : R * C = N) (hNb : N ≤ 1048576) (hRb : R < 1048576) (hCb : C < 1048576) (hgT : N ≠ 0 → gT < w.heap.size)
    (hL : 1 ≤ L) (hR : R ≤ L) (hr : R = 0 ∨ C = 0 ∨ o + (C - 1) * L + (R - 1) < 0) :
    Calls Try.prog 17 #[mat none 0 c o R C L, tbl R C gT N cT] w fun e w' => Intod 0 l o R C L T w e w' := by
  have HIn := Lib.hid (fun i j (hi : i < R) (hj : j < C) => show o + i + j * L < 0 from by
    have h1 : j * L ≤ (C - 1) * L := Nat.mul_le_mul_right _ (by omega)
    omega)
  have HI := Lib.hid (fun x q (hx : x < R) (hq : q < C) => show x * C + q < N ∧ I64 ((x : Int) * (C : Int)) ∧ (x : Int) * (C : Int) + (q : Int) = ((x * C + q : Nat) : Int) from by
    have h1 := tab_lt hx hq
    have e : (x : Int) * (C : Int) = ((x * C : Nat) : Int) := by simp
    rw [e]
    unfold I64
    omega)
  have HAt := Lib.hid (fun W (hB : Row W (some ⟨gT, 0, none⟩) (f64s T)) (x q : Nat) (hx : x < R) (hq : q < C) => rat_any R C gT N cT T x q (x * C + q) W hB hTl (HI.out x q hx hq).1 (by omega) (HI.out x q hx hq).2.2 (HI.out x q hx hq).2.1)
  have HTr := Lib.hid hT
  have HA := Lib.hid hA
  have Hl := Lib.hid hl
  have HRL := Lib.hid hR
  have HgT := Lib.hid hgT
  clear hT hgT hTl hN hr
  unfold mat tbl at *
  go_enter Try.func17, Try.ntmps17
  go_wp2_with (at_builtin; refine wpList_append_nil _ rfl _ _ rfl rfl _ _ rfl rfl ?_)
  intro w' g c' hw' hg hc'
  have hl0 : l = [] := List.length_eq_zero_iff.1 hl
  have HB := Lib.hid (show Below w.heap.size w w' by rw [hw']; exact (((Below.refl w.heap.size w).alloc (Nat.le_refl _) (.cells #[.slice none 0 c, .int .i64 o, .int .i64 R, .int .i64 C, .int .i64 L] 24)).alloc (by simp) (.cells #[.int .i64 R, .int .i64 C, .slice (some ⟨gT, 0, none⟩) N cT] 34)).alloc (by simp; omega) (.cells #[] 48))
  have HZ := Lib.hid (show Blk w' w.heap.size 24 #[.slice none 0 c, .int .i64 o, .int .i64 R, .int .i64 C, .int .i64 L] by rw [hw']; exact ((Blk.new w 24 #[.slice none 0 c, .int .i64 o, .int .i64 R, .int .i64 C, .int .i64 L]).alloc (.cells #[.int .i64 R, .int .i64 C, .slice (some ⟨gT, 0, none⟩) N cT] 34)).alloc (.cells #[] 48))
  have HX := Lib.hid (show Blk w' (w.heap.size + 1) 34 #[.int .i64 R, .int .i64 C, .slice (some ⟨gT, 0, none⟩) N cT] by rw [hw']; exact (Blk.new_ (w.alloc (.cells #[.slice none 0 c, .int .i64 o, .int .i64 R, .int .i64 C, .int .i64 L] 24)) 34 #[.int .i64 R, .int .i64 C, .slice (some ⟨gT, 0, none⟩) N cT] (w.heap.size + 1) (by simp)).alloc (.cells #[] 48))
  have HO := Lib.hid (show Own w' g l by rw [hw', hl0]; exact ⟨#[], Blk.new_ _ _ _ _ (by simp; omega), rfl⟩)
  have hg : w.heap.size + 1 + 1 ≤ g := by omega
  clear hw' hc' hA hl hl0
  generalize hzz : w.heap.size = z at *
  have Hz := Lib.hid hzz
  clear hzz
  go_wp2_with fail
  go_loopw [6] (fun i wr => ∃ (a1 : Nat) (l1 : List Nat), a1 ≤ R ∧ i = .int .i64 (a1 : Int) ∧ Hid (Pim l o R C L (fun a b => T.getD (a * C + b) 0) a1 0 l1 ∧ Own wr g l1 ∧ Blk wr z 24 #[.slice none 0 c, .int .i64 o, .int .i64 R, .int .i64 C, .int .i64 L] ∧ Blk wr (z + 1) 34 #[.int .i64 R, .int .i64 C, .slice (some ⟨gT, 0, none⟩) N cT] ∧ Below z w wr)) (fun i _ => R - (intOf i).toNat)
  case atStart => exact ⟨0, l, Nat.zero_le _, rfl, Lib.hid ⟨Pim.zero _ _ _ _ _ _, HO.out, HZ.out, HX.out, HB.out⟩⟩
  case round =>
    obtain ⟨a1, l1, har, rfl, HS⟩ := hrel
    obtain ⟨d0, d1, d2⟩ := cells3v HS.out.2.2.2.1
    by_cases hlt : a1 < R
    · have har2 : (a1 : Int) < (R : Int) := by omega
      have ha1 : a1 + 1 ≤ 1048576 := by omega
      go_wp2_with fail
      clear d0 d1 d2
      go_loopw [7] (fun i wr => ∃ (b1 : Nat) (l1 : List Nat), b1 ≤ C ∧ i = .int .i64 (b1 : Int) ∧ Hid (Pim l o R C L (fun a b => T.getD (a * C + b) 0) a1 b1 l1 ∧ Own wr g l1 ∧ Blk wr z 24 #[.slice none 0 c, .int .i64 o, .int .i64 R, .int .i64 C, .int .i64 L] ∧ Blk wr (z + 1) 34 #[.int .i64 R, .int .i64 C, .slice (some ⟨gT, 0, none⟩) N cT] ∧ Below z w wr)) (fun i _ => C - (intOf i).toNat)
      case atStart => exact ⟨0, l1, Nat.zero_le _, rfl, HS⟩
      case round =>
        obtain ⟨b1, l1, hbk, rfl, HS⟩ := hrel
        obtain ⟨d0, d1, d2⟩ := cells3v HS.out.2.2.2.1
        by_cases hlt2 : b1 < C
        · exact absurd (HIn.out a1 b1 hlt hlt2) (by omega)
        · obtain rfl : b1 = C := by omega
          have hbb : ¬ (b1 : Int) < (b1 : Int) := by omega
          go_wp2_with fail
          go_roundw
          case rel => exact ⟨a1 + 1, l1, by omega, by go_num, Lib.hid ⟨HS.out.1.next, HS.out.2⟩⟩
          case measure => simp [intOf]; omega
    · obtain rfl : a1 = R := by omega
      have hbb : ¬ (a1 : Int) < (a1 : Int) := by omega
      go_wp2_with fail
      go_ret
      exact ⟨g, c', l1, by first | rfl | simp, HS.out.2.1, HS.out.1.done, by have := Hz.out; omega, by rw [Hz.out]; exact HS.out.2.2.2.2⟩
theorem rinto_any (A : Option Addr) (n c : Nat) (l : List Nat) (o R C L gT N cT : Nat) (T : List Nat) (w : World) (hA : Row w A (f64s l)) (hT : Row w (some ⟨gT, 0, none⟩) (f64s T)) (hl : l.length = n) (hn : n ≤ 1048576) (hTl : T.length = N) (hN : R * C = N) (hNb : N ≤ 1048576) (hRb : R < 1048576) (hCb : C < 1048576) (hgT : N ≠ 0 → gT < w.heap.size)
    (hL : 1 ≤ L) (hR : R ≤ L) (hr : R = 0 ∨ C = 0 ∨ o + (C - 1) * L + (R - 1) < n) :
    Calls Try.prog 17 #[mat A n c o R C L, tbl R C gT N cT] w fun e w' => Intod n l o R C L T w e w' := by
  cases A with
  | some a => exact rinto_some a n c l o R C L gT N cT T w hA hT hl hn hTl hN hNb hRb hCb hgT hL hR hr
  | none =>
    rcases hA with h | ⟨b, o, h, _⟩
    · obtain rfl : l = [] := by simpa [f64s] using h
      obtain rfl : n = 0 := hl.symm
      exact rinto_nil c [] o R C L gT N cT T w (.inl rfl) hT rfl hTl hN hNb hRb hCb hgT hL hR hr
    · cases h
end Go.Proofs.Ytamndbeffbcppaa
/-
MoveVectors, the beginning: the two copies. Conditions: as each says.
-/
set_option linter.unusedVariables false
set_option linter.unusedSimpArgs false
set_option linter.unnecessarySimpa false
namespace Go.Proofs.Ytamndbeffbcppaa
open Go.RowKit
attribute [local go_sem ↓] Go.wp_at_zero Go.wp_at_succ

/-- Two results that have lists of their own. -/
def Twin (Z : Nat) (l l' : List Nat) (f f' : Nat → Nat → Value) (d1 d3 : Bool) (va vb : Value) (W : World) : Prop :=
  d1 = true → ∃ g c, va = f g c ∧ Own W g l ∧ Z ≤ g ∧ (d3 = true → ∃ g' c', vb = f' g' c' ∧ Own W g' l' ∧ Z ≤ g' ∧ g ≠ g')
section
variable {Z : Nat} {l l' : List Nat} {f f' : Nat → Nat → Value} {d1 d3 : Bool} {va vb : Value} {W W' : World}
theorem Twin.nxt (h : Twin Z l l' f f' d1 d3 va vb W) (hb : Below W.heap.size W W') : Twin Z l l' f f' d1 d3 va vb W' := fun e => by
  obtain ⟨g, c, h1, h2, h3, h4⟩ := h e
  refine ⟨g, c, h1, h2.nxt hb, h3, fun e' => ?_⟩
  obtain ⟨g', c', k1, k2, k3, k4⟩ := h4 e'
  exact ⟨g', c', k1, k2.nxt hb, k3, k4⟩
theorem own_ne {g p : Nat} {t : TypeId} {cs : Array Value} (h : Own W g l) (hB : Blk W p t cs) (ht : t ≠ 48) : g ≠ p := by
  rintro rfl
  obtain ⟨cs', hB', _⟩ := h
  unfold Blk at hB hB'
  rw [hB] at hB'
  injection hB' with hB'
  injection hB' with _ e _
  exact ht e
theorem own_far {g p : Nat} (h : Own W g l) (hb : ∀ k, k ≠ p → W'.heap[k]? = W.heap[k]?) (hne : g ≠ p) : Own W' g l := by
  obtain ⟨cs', hB', h2⟩ := h
  exact ⟨cs', (hb g hne).trans hB', h2⟩
theorem Twin.far {p : Nat} {t : TypeId} {cs : Array Value} (h : Twin Z l l' f f' d1 d3 va vb W) (hB : Blk W p t cs) (ht : t ≠ 48) (hb : ∀ k, k ≠ p → W'.heap[k]? = W.heap[k]?) : Twin Z l l' f f' d1 d3 va vb W' := fun e => by
  obtain ⟨g, c, h1, h2, h3, h4⟩ := h e
  refine ⟨g, c, h1, own_far h2 hb (own_ne h2 hB ht), h3, fun e' => ?_⟩
  obtain ⟨g', c', k1, k2, k3, k4⟩ := h4 e'
  exact ⟨g', c', k1, own_far k2 hb (own_ne k2 hB ht), k3, k4⟩
theorem Twin.first {g c : Nat} (ho : Own W g l) (hZ : Z ≤ g) (h3 : d3 = false) : Twin Z l l' f f' true d3 (f g c) vb W := fun _ => ⟨g, c, rfl, ho, hZ, fun e => by rw [h3] at e; cases e⟩
theorem Twin.second {g' c' : Nat} (h : Twin Z l l' f f' true false va vb W) (hb : Below W.heap.size W W') (ho : Own W' g' l') (hZ : Z ≤ g') (hg : W.heap.size ≤ g') : Twin Z l l' f f' true true va (f' g' c') W' := fun _ => by
  obtain ⟨g, c, h1, h2, h3, h4⟩ := h rfl
  exact ⟨g, c, h1, h2.nxt hb, h3, fun _ => ⟨g', c', rfl, ho, hZ, by have := h2.lt; omega⟩⟩
end
/-- The cells of a struct. -/
def cellsV : Value → Array Value
  | .agg cs => cs
  | _ => #[]
theorem Two.chg1 {w0 W : World} {t : TypeId} {z a a' b : Array Value} {da db sb : Bool} {va vb : Value} (h : Two w0 t z a b da db false sb va vb W) : Two w0 t z a' b da db false sb va vb W := h
theorem Two.chg2 {w0 W : World} {t : TypeId} {z a b b' : Array Value} {da db sa : Bool} {va vb : Value} (h : Two w0 t z a b da db sa false va vb W) : Two w0 t z a b' da db sa false va vb W := h

/-- The arguments' boxes, the copies' boxes, and the copies' lists. -/
def Begun (w : World) (l l' : List Nat) (n c : Nat) (off k inc : Int) (n' c' : Nat) (off' k' inc' : Int) (A A' : Option Addr) (p q : Nat) (W : World) : Prop :=
  ∃ g1 c1 g2 c2, Blk W w.heap.size 45 #[.slice A n c, .int .i64 off, .int .i64 k, .int .i64 inc] ∧ Blk W (w.heap.size + 1) 45 #[.slice A' n' c', .int .i64 off', .int .i64 k', .int .i64 inc'] ∧
    Blk W p 45 #[.slice (some ⟨g1, 0, none⟩) n c1, .int .i64 off, .int .i64 k, .int .i64 inc] ∧ Blk W q 45 #[.slice (some ⟨g2, 0, none⟩) n' c2, .int .i64 off', .int .i64 k', .int .i64 inc'] ∧
    Own W g1 l ∧ Own W g2 l' ∧ g1 ≠ g2 ∧ w.heap.size + 1 < g1 ∧ w.heap.size + 1 < g2 ∧ w.heap.size + 1 < p ∧ w.heap.size + 1 < q ∧ p ≠ q ∧ Below w.heap.size w W

end Go.Proofs.Ytamndbeffbcppaa
/-
Two results that are made side by side, each with memory of its own. Conditions: as each says.
-/
set_option linter.unusedVariables false
set_option linter.unusedSimpArgs false
set_option linter.unnecessarySimpa false
namespace Go.Proofs.Ytamndbeffbcppaa
open Go.RowKit
attribute [local go_sem ↓] Go.wp_at_zero Go.wp_at_succ

/-- Block g is of floats, and they meet S. -/
def OwnS (W : World) (S : Array Value → Prop) (g : Nat) : Prop := ∃ cs : Array Value, Blk W g 48 cs ∧ S cs
section
variable {W W' : World} {S S' : Array Value → Prop} {g : Nat}
theorem OwnS.nxt (h : OwnS W S g) (hb : Below W.heap.size W W') : OwnS W' S g := by
  obtain ⟨cs, h1, h2⟩ := h
  exact ⟨cs, h1.nxt hb, h2⟩
theorem OwnS.lt (h : OwnS W S g) : g < W.heap.size := by
  obtain ⟨cs, h1, h2⟩ := h
  exact h1.lt
theorem OwnS.ne_ {p : Nat} {t : TypeId} {cs : Array Value} (h : OwnS W S g) (hB : Blk W p t cs) (ht : t ≠ 48) : g ≠ p := by
  rintro rfl
  obtain ⟨cs', hB', _⟩ := h
  unfold Blk at hB hB'
  rw [hB] at hB'
  injection hB' with hB'
  injection hB' with _ e _
  exact ht e
theorem OwnS.far {p : Nat} (h : OwnS W S g) (hb : ∀ k, k ≠ p → W'.heap[k]? = W.heap[k]?) (hne : g ≠ p) : OwnS W' S g := by
  obtain ⟨cs', hB', h2⟩ := h
  exact ⟨cs', (hb g hne).trans hB', h2⟩
end
/-- Two results, each with a block of its own. -/
def Twn (Z : Nat) (S S' : Array Value → Prop) (f f' : Nat → Nat → Value) (d1 d3 : Bool) (va vb : Value) (W : World) : Prop :=
  d1 = true → ∃ g c, va = f g c ∧ OwnS W S g ∧ Z ≤ g ∧ (d3 = true → ∃ g' c', vb = f' g' c' ∧ OwnS W S' g' ∧ Z ≤ g' ∧ g ≠ g')
section
variable {Z : Nat} {S S' : Array Value → Prop} {f f' : Nat → Nat → Value} {d1 d3 : Bool} {va vb : Value} {W W' : World}
theorem Twn.nxt (h : Twn Z S S' f f' d1 d3 va vb W) (hb : Below W.heap.size W W') : Twn Z S S' f f' d1 d3 va vb W' := fun e => by
  obtain ⟨g, c, h1, h2, h3, h4⟩ := h e
  refine ⟨g, c, h1, h2.nxt hb, h3, fun e' => ?_⟩
  obtain ⟨g', c', k1, k2, k3, k4⟩ := h4 e'
  exact ⟨g', c', k1, k2.nxt hb, k3, k4⟩
theorem Twn.far {p : Nat} {t : TypeId} {cs : Array Value} (h : Twn Z S S' f f' d1 d3 va vb W) (hB : Blk W p t cs) (ht : t ≠ 48) (hb : ∀ k, k ≠ p → W'.heap[k]? = W.heap[k]?) : Twn Z S S' f f' d1 d3 va vb W' := fun e => by
  obtain ⟨g, c, h1, h2, h3, h4⟩ := h e
  refine ⟨g, c, h1, h2.far hb (h2.ne_ hB ht), h3, fun e' => ?_⟩
  obtain ⟨g', c', k1, k2, k3, k4⟩ := h4 e'
  exact ⟨g', c', k1, k2.far hb (k2.ne_ hB ht), k3, k4⟩
theorem Twn.first {g c : Nat} (ho : OwnS W S g) (hZ : Z ≤ g) (h3 : d3 = false) : Twn Z S S' f f' true d3 (f g c) vb W := fun _ => ⟨g, c, rfl, ho, hZ, fun e => by rw [h3] at e; cases e⟩
theorem Twn.second {g' c' : Nat} (h : Twn Z S S' f f' true false va vb W) (hb : Below W.heap.size W W') (ho : OwnS W' S' g') (hZ : Z ≤ g') (hg : W.heap.size ≤ g') : Twn Z S S' f f' true true va (f' g' c') W' := fun _ => by
  obtain ⟨g, c, h1, h2, h3, h4⟩ := h rfl
  exact ⟨g, c, h1, h2.nxt hb, h3, fun _ => ⟨g', c', rfl, ho, hZ, by have := h2.lt; omega⟩⟩
end
theorem rest_sets1 (w : World) (p : Addr) (x : Value) : (w.setCell p x).os = w.os ∧ (w.setCell p x).tape = w.tape ∧ (w.setCell p x).output = w.output ∧ w.heap.size ≤ (w.setCell p x).heap.size :=
  ⟨rfl, rfl, rfl, by simp [World.setCell]⟩
theorem rest_then {a b c : World} (h : b.os = a.os ∧ b.tape = a.tape ∧ b.output = a.output ∧ a.heap.size ≤ b.heap.size) (k : c.os = b.os ∧ c.tape = b.tape ∧ c.output = b.output ∧ b.heap.size ≤ c.heap.size) : c.os = a.os ∧ c.tape = a.tape ∧ c.output = a.output ∧ a.heap.size ≤ c.heap.size :=
  ⟨k.1.trans h.1, k.2.1.trans h.2.1, k.2.2.1.trans h.2.2.1, Nat.le_trans h.2.2.2 k.2.2.2⟩
theorem rest_sets5 (w : World) (p0 p1 p2 p3 p4 : Addr) (x0 x1 x2 x3 x4 : Value) : (((((w.setCell p0 x0).setCell p1 x1).setCell p2 x2).setCell p3 x3).setCell p4 x4).os = w.os ∧ (((((w.setCell p0 x0).setCell p1 x1).setCell p2 x2).setCell p3 x3).setCell p4 x4).tape = w.tape ∧ (((((w.setCell p0 x0).setCell p1 x1).setCell p2 x2).setCell p3 x3).setCell p4 x4).output = w.output ∧ w.heap.size ≤ (((((w.setCell p0 x0).setCell p1 x1).setCell p2 x2).setCell p3 x3).setCell p4 x4).heap.size :=
  rest_then (rest_sets4 w p0 p1 p2 p3 x0 x1 x2 x3) (rest_sets1 _ p4 x4)
theorem rest_sets3 (w : World) (p0 p1 p2 : Addr) (x0 x1 x2 : Value) : (((w.setCell p0 x0).setCell p1 x1).setCell p2 x2).os = w.os ∧ (((w.setCell p0 x0).setCell p1 x1).setCell p2 x2).tape = w.tape ∧ (((w.setCell p0 x0).setCell p1 x1).setCell p2 x2).output = w.output ∧ w.heap.size ≤ (((w.setCell p0 x0).setCell p1 x1).setCell p2 x2).heap.size :=
  ⟨rfl, rfl, rfl, by simp [World.setCell]⟩
theorem frozen5w {w : World} {b : Nat} {t : TypeId} {v0 v1 v2 v3 v4 : Value} (h : Blk w b t #[v0, v1, v2, v3, v4]) : w.frozen? ⟨b, 0, none⟩ = false ∧ w.frozen? ⟨b, 1, none⟩ = false ∧ w.frozen? ⟨b, 2, none⟩ = false ∧ w.frozen? ⟨b, 3, none⟩ = false ∧ w.frozen? ⟨b, 4, none⟩ = false := ⟨h.frozen 0, h.frozen 1, h.frozen 2, h.frozen 3, h.frozen 4⟩

set_option maxHeartbeats 2000000 in
/-- The document's Take, where the order is wrong. -/
theorem rtake_err (R C N g c : Nat) (B : Option Addr) (m d : Nat) (zs : List Int) (w : World) (hZ : Row w B (i64s zs)) (hm : zs.length = m) (hmb : m < 1048576) (hRb : R < 1048576) (hz : ∀ z ∈ zs, I64 z) (x : Int) (hx : (R < m ∧ x = 3) ∨ (m ≤ R ∧ ¬ OrdOk R zs m ∧ x = 1)) :
    Calls Try.prog 16 #[tbl R C g N c, .slice B m d] w fun e w' => e = .returned (.int .i64 x) ∧ Below w.heap.size w w' := by
  have HB := Lib.hid hZ
  have HM := Lib.hid hm
  have HZ := Lib.hid hz
  have HXx := Lib.hid hx
  clear hZ hm hz hx
  unfold tbl at *
  go_enter Try.func16, Try.ntmps16
  have HX := Lib.hid (Blk.new w 34 #[.int .i64 R, .int .i64 C, .slice (some ⟨g, 0, none⟩) N c])
  have HBl := Lib.hid (below_one (W := w) (o := (.cells #[.int .i64 R, .int .i64 C, .slice (some ⟨g, 0, none⟩) N c] 34)))
  by_cases hmr : (R : Int) < (m : Int)
  · have hx3 : x = 3 := by have := HXx.out; omega
    subst hx3
    go_wp2_with fail
    go_ret
    exact ⟨rfl, HBl.out⟩
  have hx1 : ¬ OrdOk R zs m ∧ x = 1 := by
    rcases HXx.out with h | h
    · omega
    · exact h.2
  have HNo := Lib.hid hx1.1
  obtain rfl := hx1.2
  clear hx1
  go_wp2_with fail
  generalize hzz : w.heap.size = z at *
  have Hz := Lib.hid hzz
  clear hzz
  go_loopw [5] (fun a wr => ∃ q : Nat, q ≤ m ∧ a = .int .i64 q ∧ Below z w wr ∧ Blk wr z 34 #[.int .i64 R, .int .i64 C, .slice (some ⟨g, 0, none⟩) N c] ∧ OrdOk R zs q) (fun a _ => m - (intOf a).toNat)
  case atStart => exact ⟨0, Nat.zero_le _, rfl, HBl.out, HX.out, fun i h h0 => by omega⟩
  case round =>
    obtain ⟨q, hq, rfl, hb1, hx1, hok⟩ := hrel
    have HB1 := Lib.hid hb1
    have HX1 := Lib.hid hx1
    have HOk := Lib.hid hok
    clear hb1 hx1 hok
    obtain ⟨c0, c1, c2⟩ := cells3v HX1.out
    by_cases hlt : q < m
    · have hql : q < zs.length := by rw [HM.out]; exact hlt
      obtain ⟨b, o, rfl, _, hcell0⟩ := HB.out.at_ (i64s_get zs q hql)
      have hcell := cell_below hcell0 (show Below w.heap.size w wr by rw [Hz.out]; exact HB1.out)
      have HZq := Lib.hid (HZ.out zs[q] (List.getElem_mem hql))
      obtain ⟨j, hj⟩ : ∃ j, zs[q] = j := ⟨_, rfl⟩
      rw [hj] at hcell HZq
      have Hj := Lib.hid hj
      have hzb := HZq.out
      unfold I64 at hzb
      have hlt2 : (q : Int) < (m : Int) := by omega
      clear hcell0 hj
      by_cases h1 : j < (q : Int)
      · have d1 : decide (j < (q : Int)) = true := by simp [h1]
        go_wp2_with fail
        go_quiet (fail)
        go_wp2_with fail
        go_ret
        exact ⟨rfl, by rw [Hz.out]; first | exact HB1.out | exact below_drewN HB1.out _⟩
      · have d1 : decide (j < (q : Int)) = false := by simp; omega
        by_cases h2 : (R : Int) ≤ j
        · have d2 : decide ((R : Int) ≤ j) = true := by simp [h2]
          go_wp2_with fail
          go_quiet (fail)
          go_wp2_with fail
          go_ret
          exact ⟨rfl, by rw [Hz.out]; first | exact HB1.out | exact below_drewN HB1.out _⟩
        · have d2 : decide ((R : Int) ≤ j) = false := by simp; omega
          go_wp2_with fail
          go_quiet (fail)
          go_wp2_with fail
          go_roundw
          case rel => exact ⟨q + 1, by omega, by go_num, below_drewN HB1.out _, HX1.out, fun i h hi => by
            by_cases e : i = q
            · subst e; rw [Hj.out]; omega
            · exact HOk.out i h (by omega)⟩
          case measure => simp [intOf]; omega
    · obtain rfl : q = m := by omega
      exact absurd HOk.out HNo.out
end Go.Proofs.Ytamndbeffbcppaa
/-
MoveRows: what is between its two calls; how the lists and the tables fit. Conditions: as each says.
-/
set_option linter.unusedVariables false
set_option linter.unusedSimpArgs false
set_option linter.unnecessarySimpa false
namespace Go.Proofs.Ytamndbeffbcppaa
open Go.RowKit

theorem held13 {w W w' : World} {b0 o0 b1 o1 b2 o2 b3 o3 b4 o4 b5 o5 b6 o6 b7 o7 b8 o8 b9 o9 b10 o10 b11 o11 b12 o12 : Nat} {v0 v1 v2 v3 v4 v5 v6 v7 v8 v9 v10 v11 v12 : Value} (h : W.cell? ⟨b0, o0, none⟩ = some v0 ∧ W.cell? ⟨b1, o1, none⟩ = some v1 ∧ W.cell? ⟨b2, o2, none⟩ = some v2 ∧ W.cell? ⟨b3, o3, none⟩ = some v3 ∧ W.cell? ⟨b4, o4, none⟩ = some v4 ∧ W.cell? ⟨b5, o5, none⟩ = some v5 ∧ W.cell? ⟨b6, o6, none⟩ = some v6 ∧ W.cell? ⟨b7, o7, none⟩ = some v7 ∧ W.cell? ⟨b8, o8, none⟩ = some v8 ∧ W.cell? ⟨b9, o9, none⟩ = some v9 ∧ W.cell? ⟨b10, o10, none⟩ = some v10 ∧ W.cell? ⟨b11, o11, none⟩ = some v11 ∧ W.cell? ⟨b12, o12, none⟩ = some v12 ∧ Below w.heap.size w W) (hb : Below W.heap.size W w') :
    w'.cell? ⟨b0, o0, none⟩ = some v0 ∧ w'.cell? ⟨b1, o1, none⟩ = some v1 ∧ w'.cell? ⟨b2, o2, none⟩ = some v2 ∧ w'.cell? ⟨b3, o3, none⟩ = some v3 ∧ w'.cell? ⟨b4, o4, none⟩ = some v4 ∧ w'.cell? ⟨b5, o5, none⟩ = some v5 ∧ w'.cell? ⟨b6, o6, none⟩ = some v6 ∧ w'.cell? ⟨b7, o7, none⟩ = some v7 ∧ w'.cell? ⟨b8, o8, none⟩ = some v8 ∧ w'.cell? ⟨b9, o9, none⟩ = some v9 ∧ w'.cell? ⟨b10, o10, none⟩ = some v10 ∧ w'.cell? ⟨b11, o11, none⟩ = some v11 ∧ w'.cell? ⟨b12, o12, none⟩ = some v12 ∧ Below w.heap.size w w' :=
  ⟨cell_below h.1 hb, cell_below h.2.1 hb, cell_below h.2.2.1 hb, cell_below h.2.2.2.1 hb, cell_below h.2.2.2.2.1 hb, cell_below h.2.2.2.2.2.1 hb, cell_below h.2.2.2.2.2.2.1 hb, cell_below h.2.2.2.2.2.2.2.1 hb, cell_below h.2.2.2.2.2.2.2.2.1 hb, cell_below h.2.2.2.2.2.2.2.2.2.1 hb, cell_below h.2.2.2.2.2.2.2.2.2.2.1 hb, cell_below h.2.2.2.2.2.2.2.2.2.2.2.1 hb, cell_below h.2.2.2.2.2.2.2.2.2.2.2.2.1 hb, h.2.2.2.2.2.2.2.2.2.2.2.2.2.trans (hb.mono h.2.2.2.2.2.2.2.2.2.2.2.2.2.size)⟩
theorem blk_ne {W : World} {p g : Nat} {t t' : TypeId} {cs cs' : Array Value} (h : Blk W p t cs) (h' : Blk W g t' cs') (ht : t ≠ t') : p ≠ g := by
  rintro rfl
  unfold Blk at h h'
  rw [h] at h'
  injection h' with h'
  injection h' with _ e _
  exact ht e
/-- Two lists of the call's own, the one changed or not yet, and the other. -/
def Both (W0 : World) (l : List Nat) (F1 F2 : List Nat → Prop) (g1 g2 : Nat) (d3 d6 : Bool) (W : World) : Prop :=
  ∃ la lb, Own W g1 la ∧ Own W g2 lb ∧ (if d3 = true then F1 la else la = l) ∧ (if d6 = true then F2 lb else lb = l) ∧ Chg [g1, g2] W0 W
section
variable {W0 W W' : World} {l : List Nat} {F1 F2 : List Nat → Prop} {g1 g2 : Nat} {d3 d6 : Bool}
theorem Both.start (h1 : Own W g1 l) (h2 : Own W g2 l) (hc : Chg [g1, g2] W0 W) : Both W0 l F1 F2 g1 g2 false false W := ⟨l, l, h1, h2, rfl, rfl, hc⟩
theorem Both.first (h : Both W0 l F1 F2 g1 g2 false d6 W) (hne : g1 ≠ g2) {l' : List Nat} (ho : Own W' g1 l') (hF : F1 l') (hc : Chg [g1] W W') : Both W0 l F1 F2 g1 g2 true d6 W' := by
  obtain ⟨la, lb, h1, h2, h3, h4, h5⟩ := h
  exact ⟨l', lb, ho, hc.own (by simp; exact fun e => hne e.symm) h2, hF, h4, h5.trans (hc.mono (by simp))⟩
theorem Both.second (h : Both W0 l F1 F2 g1 g2 d3 false W) (hne : g1 ≠ g2) {l' : List Nat} (ho : Own W' g2 l') (hF : F2 l') (hc : Chg [g2] W W') : Both W0 l F1 F2 g1 g2 d3 true W' := by
  obtain ⟨la, lb, h1, h2, h3, h4, h5⟩ := h
  exact ⟨la, l', hc.own (by simp; exact hne) h1, ho, h3, hF, h5.trans (hc.mono (by simp))⟩
theorem Both.one (h : Both W0 l F1 F2 g1 g2 false d6 W) : Own W g1 l := by
  obtain ⟨la, lb, h1, h2, h3, h4, h5⟩ := h
  have h3 : la = l := h3
  subst h3; exact h1
theorem Both.two (h : Both W0 l F1 F2 g1 g2 d3 false W) : Own W g2 l := by
  obtain ⟨la, lb, h1, h2, h3, h4, h5⟩ := h
  have h4 : lb = l := h4
  subst h4; exact h2
theorem Both.chg (h : Both W0 l F1 F2 g1 g2 d3 d6 W) : Chg [g1, g2] W0 W := by
  obtain ⟨la, lb, h1, h2, h3, h4, h5⟩ := h
  exact h5
end
/-- A list of the caller's is as it was. -/
theorem chg_row {w W0 W : World} {G : List Nat} {B : Option Addr} {xs : List Value} (h : Row w B xs) (hb : Below w.heap.size w W0) (hc : Chg G W0 W) (hG : ∀ g ∈ G, w.heap.size ≤ g) : Row W B xs := by
  rcases h with rfl | ⟨b, o, rfl, h1⟩
  · exact .inl rfl
  · cases xs with
    | nil => exact .inl rfl
    | cons x xs =>
      have hlt := block_lt (h1 0 x rfl)
      refine hc.row (fun b' o' e => ?_) ((show Row w (some ⟨b, o, none⟩) (x :: xs) from .inr ⟨b, o, rfl, h1⟩).below hb)
      injection e with e; injection e with e _
      subst e
      intro hg
      have := hG _ hg
      omega

theorem tab_get {l T : List Nat} {o R C L N a b : Nat} (h : Tab l o R C L N T) (hN : R * C = N) (ha : a < R) (hb : b < C) : T.getD (a * C + b) 0 = l.getD (o + a + b * L) 0 :=
  h.2 a b ha hb (by rw [← hN]; exact tab_lt ha hb)
/-- The table as it was: the list as it was. -/
theorem fit_same {l T l' : List Nat} {o R C L N : Nat} (h : Tab l o R C L N T) (hN : R * C = N) (hi : Img l o R C L (fun a b => T.getD (a * C + b) 0) l') : l = l' :=
  (Img.refl l o R C L).uniq hi fun a ha b hb => (tab_get h hN ha hb).symm
theorem fit_half {l T T' m l' : List Nat} {o R C L N i j : Nat} (h : Tab l o R C L N T) (hN : R * C = N) (hi : i < R) (hj : j < R) (hh : Half T i j R C C T') (hm : Img l o R C L (fun a b => l.getD (o + sw i j a + b * L) 0) m)
    (hl : Img l o R C L (fun a b => T'.getD (a * C + b) 0) l') : m = l' :=
  hm.uniq hl fun a ha b hb => by rw [hh.2 a ha b hb, if_pos hb, tab_get h hN (sw_lt hi hj ha) hb]
theorem fit_prm {l T T' m l' : List Nat} {o R C L N q : Nat} {zs : List Int} (h : Tab l o R C L N T) (hN : R * C = N) (hz : OrdOk R zs q) (hq : q ≤ zs.length) (hh : Prm T zs R C q T') (hm : Img l o R C L (fun a b => l.getD (o + prm zs q a + b * L) 0) m)
    (hl : Img l o R C L (fun a b => T'.getD (a * C + b) 0) l') : m = l' :=
  hm.uniq hl fun a ha b hb => by rw [hh.2 a ha b hb, tab_get h hN (prm_lt hz hq ha) hb]
theorem wds_img {l l' : List Nat} {o R C L : Nat} {f : Nat → Nat} (h : Wds l) (hi : Img l o R C L (fun a b => l.getD (o + f a + b * L) 0) l') : Wds l' := by
  have hw : ∀ k, l.getD k 0 < 18446744073709551616 := fun k => by
    rcases Nat.lt_or_ge k l.length with h1 | h1
    · rw [getD_of_lt h1]; exact h.at_ k h1
    · rw [getD_of_le h1]; omega
  intro x hx
  obtain ⟨k, hk, rfl⟩ := List.mem_iff_getElem.1 hx
  rw [← getD_of_lt hk]
  by_cases hp : ∃ a, a < R ∧ ∃ b, b < C ∧ k = o + a + b * L
  · obtain ⟨a, ha, b, hb, rfl⟩ := hp
    rw [hi.2.1 a ha b hb]; exact hw _
  · rw [hi.2.2 k (fun a ha b hb e => hp ⟨a, ha, b, hb, e⟩)]; exact hw _
end Go.Proofs.Ytamndbeffbcppaa
