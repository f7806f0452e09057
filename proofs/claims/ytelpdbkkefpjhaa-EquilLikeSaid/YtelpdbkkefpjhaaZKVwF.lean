/-
The document's table of a right matrix. Conditions: the table has at most 2^40 numbers.
-/
import Derived.Test.YtelpdbkkefpjhaaWKd
set_option linter.unusedVariables false
namespace Go.Proofs.Ytelpdbkkefpjhaa
open Go.RowKit
attribute [local go_sem ↓] Go.wp_at_zero Go.wp_at_succ

/-- The first q numbers of the table stand there. -/
def Tab (l : List Nat) (off r k ld q : Nat) (T : List Nat) : Prop := T.length = r * k ∧ ∀ i j, i < r → j < k → i * k + j < q → T.getD (i * k + j) 0 = l.getD (off + i + j * ld) 0
theorem Tab.zero (l : List Nat) (off r k ld : Nat) : Tab l off r k ld 0 (List.replicate (r * k) 0) := ⟨by simp, fun i j _ _ h => by omega⟩
theorem tab_lt {r k i j : Nat} (hi : i < r) (hj : j < k) : i * k + j < r * k := by
  calc i * k + j < i * k + k := by omega
    _ = (i + 1) * k := by rw [Nat.add_mul, Nat.one_mul]
    _ ≤ r * k := Nat.mul_le_mul_right _ hi
theorem Tab.step {l : List Nat} {off r k ld i j : Nat} {T : List Nat} (h : Tab l off r k ld (i * k + j) T) (hi : i < r) (hj : j < k) :
    Tab l off r k ld (i * k + (j + 1)) (T.set (i * k + j) (l.getD (off + i + j * ld) 0)) := by
  have hlt := tab_lt hi hj
  refine ⟨by rw [List.length_set]; exact h.1, fun a b ha hb hab => ?_⟩
  by_cases e : a * k + b = i * k + j
  · have hk : 0 < k := by omega
    have e1 : a = i := by
      have h1 : (a * k + b) / k = a := by rw [Nat.add_comm, Nat.add_mul_div_right _ _ hk, Nat.div_eq_of_lt hb, Nat.zero_add]
      have h2 : (i * k + j) / k = i := by rw [Nat.add_comm, Nat.add_mul_div_right _ _ hk, Nat.div_eq_of_lt hj, Nat.zero_add]
      rw [← h1, e, h2]
    subst e1
    obtain rfl : b = j := by omega
    simp [List.getD, h.1, hlt]
  · rw [List.getD, List.getElem?_set_ne (fun e' => e e'.symm)]
    have := h.2 a b ha hb (by omega)
    rw [List.getD] at this
    exact this
theorem Tab.next {l : List Nat} {off r k ld i j : Nat} {T : List Nat} (h : Tab l off r k ld (i * k + j) T) (hj : j = k) : Tab l off r k ld ((i + 1) * k) T := by
  subst hj
  rw [Nat.add_mul, Nat.one_mul]; exact h

/-- What lies in other blocks stays, and the call's own block is as it will be. -/
theorem heldO7 {g : Nat} {w0 W w' : World} {t : TypeId} {cs cs' : Array Value} {b0 o0 b1 o1 b2 o2 b3 o3 b4 o4 b5 o5 b6 o6 : Nat} {v0 v1 v2 v3 v4 v5 v6 : Value} (h : W.cell? ⟨b0, o0, none⟩ = some v0 ∧ W.cell? ⟨b1, o1, none⟩ = some v1 ∧ W.cell? ⟨b2, o2, none⟩ = some v2 ∧ W.cell? ⟨b3, o3, none⟩ = some v3 ∧ W.cell? ⟨b4, o4, none⟩ = some v4 ∧ W.cell? ⟨b5, o5, none⟩ = some v5 ∧ W.cell? ⟨b6, o6, none⟩ = some v6 ∧ Only g w0 W ∧ (Blk W g t cs ∨ Blk W g t cs')) (hO : Only g W w') (hB : Blk w' g t cs') (n0 : b0 ≠ g) (n1 : b1 ≠ g) (n2 : b2 ≠ g) (n3 : b3 ≠ g) (n4 : b4 ≠ g) (n5 : b5 ≠ g) (n6 : b6 ≠ g) :
    w'.cell? ⟨b0, o0, none⟩ = some v0 ∧ w'.cell? ⟨b1, o1, none⟩ = some v1 ∧ w'.cell? ⟨b2, o2, none⟩ = some v2 ∧ w'.cell? ⟨b3, o3, none⟩ = some v3 ∧ w'.cell? ⟨b4, o4, none⟩ = some v4 ∧ w'.cell? ⟨b5, o5, none⟩ = some v5 ∧ w'.cell? ⟨b6, o6, none⟩ = some v6 ∧ Only g w0 w' ∧ (Blk w' g t cs ∨ Blk w' g t cs') :=
  ⟨hO.cell n0 h.1, hO.cell n1 h.2.1, hO.cell n2 h.2.2.1, hO.cell n3 h.2.2.2.1, hO.cell n4 h.2.2.2.2.1, hO.cell n5 h.2.2.2.2.2.1, hO.cell n6 h.2.2.2.2.2.2.1, h.2.2.2.2.2.2.2.1.trans hO, .inr hB⟩
theorem rset_two (r k : Int) (g n c : Nat) (T : List Nat) (i j p v : Nat) (w : World) (hB : Blk w g 45 (f64s T).toArray ∨ Blk w g 45 (f64s (T.set p v)).toArray) (hT : T.length = n) (hp : p < n) (hn : n < 9223372036854775808) (he : (i : Int) * k + (j : Int) = (p : Int)) (hm : I64 ((i : Int) * k)) :
    Calls Try.prog 34 #[tbl r k g n c, .int .i64 i, .int .i64 j, .float .f64 v] w fun e w' => e = .returned (.tuple #[]) ∧ Blk w' g 45 (f64s (T.set p v)).toArray ∧ Only g w w' := by
  rcases hB with hB | hB
  · exact rset_any r k g n c T i j p v w hB hT hp hn he hm
  · have h := rset_any r k g n c (T.set p v) i j p v w hB (by simpa using hT) hp hn he hm
    simpa using h

set_option maxHeartbeats 2000000 in
theorem rof_any (A : Option Addr) (n c : Nat) (l : List Nat) (off r k ld N : Nat) (w : World) (hA : Row w A (f64s l)) (hl : l.length = n) (hn : n < 9223372036854775808) (hN : r * k = N) (hb : N ≤ 1099511627776)
    (hr : r < 9223372036854775808) (hk : k < 9223372036854775808) (hg : r = 0 ∨ k = 0 ∨ off + (k - 1) * ld + (r - 1) < n) :
    Calls Try.prog 10 #[mat A n c off r k ld] w fun e w' => ∃ g T, e = .returned (tbl r k g N N) ∧ Tab l off r k ld N T ∧ Row w' (some ⟨g, 0, none⟩) (f64s T) ∧ w.heap.size ≤ g ∧ Below w.heap.size w w' := by
  have hin : ∀ i j, i < r → j < k → off + i + j * ld < n := by
    intro i j hi hj
    have h1 : j * ld ≤ (k - 1) * ld := Nat.mul_le_mul_right _ (by omega)
    omega
  have HA := Lib.hid hA
  have HIn := Lib.hid hin
  have HL := Lib.hid hl
  have HN := Lib.hid hN
  have HBN := Lib.hid hb
  clear hA hin hl hg hN hb
  unfold mat
  go_enter Try.func10, Try.ntmps10
  have hb0 := (Blk.new w 24 #[.slice A n c, .int .i64 off, .int .i64 r, .int .i64 k, .int .i64 ld]).alloc (.cells #[.int .i64 0, .int .i64 0, .slice none 0 0] 32)
  have hb1 := Blk.new_ (w.alloc (.cells #[.slice A n c, .int .i64 off, .int .i64 r, .int .i64 k, .int .i64 ld] 24)) 32 #[.int .i64 0, .int .i64 0, .slice none 0 0] (w.heap.size + 1) (by simp)
  have hbl := ((Below.refl w.heap.size w).alloc (Nat.le_refl _) (.cells #[.slice A n c, .int .i64 off, .int .i64 r, .int .i64 k, .int .i64 ld] 24)).alloc (by simp) (.cells #[.int .i64 0, .int .i64 0, .slice none 0 0] 32)
  have HB0 := Lib.hid hb0
  have HB1 := Lib.hid hb1
  have HBl := Lib.hid hbl
  clear hb0 hb1 hbl
  go_wp2_with fail
  refine (rnew_any r k N _ HN.out HBN.out hr hk).mono ?_
  rintro e w1 ⟨g, rfl, hG, hgs, hb⟩
  have hgs2 : w.heap.size + 1 + 1 ≤ g := by simpa using hgs
  have b0 := (HB0.out.nxt hb).alloc (.cells #[.int .i64 r, .int .i64 k, .slice (some ⟨g, 0, none⟩) N N] 32)
  have b1 := (HB1.out.nxt hb).alloc (.cells #[.int .i64 r, .int .i64 k, .slice (some ⟨g, 0, none⟩) N N] 32)
  have bg := hG.alloc (.cells #[.int .i64 r, .int .i64 k, .slice (some ⟨g, 0, none⟩) N N] 32)
  have bo := Blk.new w1 32 #[.int .i64 r, .int .i64 k, .slice (some ⟨g, 0, none⟩) N N]
  have hgl := hG.lt
  have hbl := HBl.out.trans (hb.mono (by simp; omega))
  have hbl2 := hbl.alloc hbl.size (.cells #[.int .i64 r, .int .i64 k, .slice (some ⟨g, 0, none⟩) N N] 32)
  have Q0 := Lib.hid b0
  have Q1 := Lib.hid b1
  have Qg := Lib.hid bg
  have Qo := Lib.hid bo
  have Qb := Lib.hid hbl2
  clear b0 b1 bg bo hbl hbl2 hG hb HB0 HB1 HBl
  unfold tbl
  go_wp2_with fail
  generalize hq : w1.heap.size = q at *
  generalize w1.alloc (.cells #[.int .i64 r, .int .i64 k, .slice (some ⟨g, 0, none⟩) N N] 32) = W3 at *
  generalize hz : w.heap.size = z at *
  have HZ := Lib.hid hz
  clear hz hq
  go_loopw [4] (fun i wr => ∃ (a : Nat) (T : List Nat), a ≤ r ∧ i = .int .i64 (a : Int) ∧ Hid (Tab l off r k ld (a * k) T ∧ Blk wr g 45 (f64s T).toArray ∧ Blk wr z 24 #[.slice A n c, .int .i64 off, .int .i64 r, .int .i64 k, .int .i64 ld] ∧ Blk wr (z + 1) 32 #[.int .i64 0, .int .i64 0, .slice none 0 0] ∧ Blk wr q 32 #[.int .i64 r, .int .i64 k, .slice (some ⟨g, 0, none⟩) N N] ∧ Below z w wr)) (fun i _ => r - (intOf i).toNat)
  case atStart => exact ⟨0, List.replicate N 0, Nat.zero_le _, rfl, Lib.hid ⟨by rw [Nat.zero_mul, ← HN.out]; exact Tab.zero _ _ _ _ _, Qg.out, Q0.out, Q1.out, Qo.out, Qb.out⟩⟩
  case round =>
    obtain ⟨a, T, har, rfl, HS⟩ := hrel
    by_cases hlt : a < r
    · obtain ⟨c0, c1, c2, c3, c4⟩ := cells5 HS.out.2.2.1
      have har2 : (a : Int) < (r : Int) := by omega
      go_wp2_with fail
      clear c0 c1 c2 c3 c4
      go_loopw [5] (fun i wr => ∃ (b : Nat) (T : List Nat), b ≤ k ∧ i = .int .i64 (b : Int) ∧ Hid (Tab l off r k ld (a * k + b) T ∧ Blk wr g 45 (f64s T).toArray ∧ Blk wr z 24 #[.slice A n c, .int .i64 off, .int .i64 r, .int .i64 k, .int .i64 ld] ∧ Blk wr (z + 1) 32 #[.int .i64 0, .int .i64 0, .slice none 0 0] ∧ Blk wr q 32 #[.int .i64 r, .int .i64 k, .slice (some ⟨g, 0, none⟩) N N] ∧ Below z w wr)) (fun i _ => k - (intOf i).toNat)
      case atStart => exact ⟨0, T, Nat.zero_le _, rfl, HS⟩
      case round =>
        obtain ⟨b, T, hbk, rfl, HS⟩ := hrel
        obtain ⟨c0, c1, c2, c3, c4⟩ := cells5 HS.out.2.2.1
        by_cases hlt2 : b < k
        · obtain ⟨d0, d1, d2⟩ := cells3v HS.out.2.2.2.2.1
          have hs := HIn.out a b hlt hlt2
          have hsl : off + a + b * ld < l.length := by rw [HL.out]; exact hs
          obtain ⟨ab, ao, rfl, hab, hcell0⟩ := HA.out.at_ (f64s_get l _ hsl)
          have hcell := cell_below hcell0 (show Below w.heap.size w _ by rw [HZ.out]; exact HS.out.2.2.2.2.2)
          have habz : ab < z := by rw [← HZ.out]; exact hab
          have hv : l.getD (off + a + b * ld) 0 = l[off + a + b * ld] := by simp [List.getD, hsl]
          have hstep := HS.out.1.step hlt hlt2
          rw [hv] at hstep
          generalize l[off + a + b * ld] = v at *
          have hp := tab_lt hlt hlt2
          obtain ⟨m, hm⟩ : ∃ m, b * ld = m := ⟨_, rfl⟩
          obtain ⟨u, hu⟩ : ∃ u, off + a = u := ⟨_, rfl⟩
          obtain ⟨p, hpp⟩ : ∃ p, a * k + b = p := ⟨_, rfl⟩
          have e1 : (b : Int) * (ld : Int) = (m : Int) := by rw [← hm]; simp
          have e2 : (off : Int) + (a : Int) = (u : Int) := by omega
          rw [hm, hu] at hcell hs
          rw [hpp] at hp hstep
          obtain ⟨s, hs2⟩ : ∃ s, u + m = s := ⟨_, rfl⟩
          have e3 : (u : Int) + (m : Int) = (s : Int) := by omega
          rw [hs2] at hcell hs
          have w1' : IntKind.i64.wrap (u : Int) = (u : Int) := wrapi (by omega) (by omega)
          have w2' : IntKind.i64.wrap (m : Int) = (m : Int) := wrapi (by omega) (by omega)
          have w3' : IntKind.i64.wrap (s : Int) = (s : Int) := wrapi (by omega) (by omega)
          have e4 : (s : Int) < (n : Int) := by omega
          have e5 : (b : Int) < (k : Int) := by omega
          have e6 : (a : Int) * (k : Int) + (b : Int) = (p : Int) := by rw [← hpp]; simp
          have e7 : (a : Int) * (k : Int) = ((a * k : Nat) : Int) := by simp
          have HStep := Lib.hid hstep
          have HI := Lib.hid (show I64 ((a : Int) * (k : Int)) by unfold I64; have := HBN.out; have := HN.out; omega)
          have HT := Lib.hid (show T.length = N by rw [← HN.out]; exact HS.out.1.1)
          have HP := Lib.hid (show p < N by rw [← HN.out]; exact hp)
          have HNb := Lib.hid (show N < 9223372036854775808 by have := HBN.out; omega)
          have HE6 := Lib.hid e6
          clear hstep hv hsl hcell0 hm hu hpp hs2 hp e6 e7
          have HG := Lib.hid hgs2
          have HGl := Lib.hid hgl
          have n1 : z ≠ g := by omega
          have n2 : q ≠ g := by omega
          have n3 : ab ≠ g := by omega
          have hOr := (Only.refl g wr).drew
          have hBr := HS.out.2.1.drew
          clear hgs2 hgl habz
          go_wp2_with fail
          go_region_held3 (fun w' => w'.cell? ⟨z, 0, none⟩ = some (.slice (some ⟨ab, ao, none⟩) n c) ∧ w'.cell? ⟨z, 1, none⟩ = some (.int .i64 off) ∧ w'.cell? ⟨z, 4, none⟩ = some (.int .i64 ld) ∧ w'.cell? ⟨q, 0, none⟩ = some (.int .i64 r) ∧ w'.cell? ⟨q, 1, none⟩ = some (.int .i64 k) ∧ w'.cell? ⟨q, 2, none⟩ = some (.slice (some ⟨g, 0, none⟩) N N) ∧ w'.cell? ⟨ab, ao + s, none⟩ = some (.float .f64 v) ∧ Only g wr w' ∧ (Blk w' g 45 (f64s T).toArray ∨ Blk w' g 45 (f64s (T.set p v)).toArray))
            (first | exact ⟨c0, c1, c4, d0, d1, d2, hcell, hOr, .inl hBr⟩ | exact heldO7 ‹_ ∧ _ ∧ _ ∧ _ ∧ _ ∧ _ ∧ _ ∧ Only g wr _ ∧ _› hO2 hT2 n1 n1 n1 n2 n2 n2 n3)
            ((go_at_call 34; refine (rset_two r k g N N T a b p v _ (‹_ ∧ _ ∧ _ ∧ _ ∧ _ ∧ _ ∧ _ ∧ Only g wr _ ∧ _›).2.2.2.2.2.2.2.2 HT.out HP.out HNb.out HE6.out HI.out).mono ?_; rintro e wS ⟨rfl, hT2, hO2⟩; skip))
          have HO3 := Lib.hid (‹_ ∧ _ ∧ _ ∧ _ ∧ _ ∧ _ ∧ _ ∧ Only g wr _ ∧ _›).2.2.2.2.2.2.2.1
          go_wp2_with fail
          go_roundw
          case rel =>
            have h0 := HG.out
            have h1 := HGl.out
            exact ⟨b + 1, T.set p v, by omega, by go_num, Lib.hid ⟨HStep.out, hT2, HO3.out.blk (by omega) HS.out.2.2.1, HO3.out.blk (by omega) HS.out.2.2.2.1, HO3.out.blk (by omega) HS.out.2.2.2.2.1, HO3.out.below HS.out.2.2.2.2.2 (Nat.le_of_lt HS.out.2.2.1.lt) (by omega)⟩⟩
          case measure => simp [intOf]; omega
        · obtain rfl : b = k := by omega
          have hbb : ¬ (b : Int) < (b : Int) := by omega
          go_wp2_with fail
          go_roundw
          case rel => exact ⟨a + 1, T, by omega, by go_num, Lib.hid ⟨HS.out.1.next rfl, HS.out.2⟩⟩
          case measure => simp [intOf]; omega
    · obtain rfl : a = r := by omega
      have hbb : ¬ (a : Int) < (a : Int) := by omega
      obtain ⟨c0, c1, c2, c3, c4⟩ := cells5 HS.out.2.2.1
      obtain ⟨d0, d1, d2⟩ := cells3v HS.out.2.2.2.2.1
      obtain ⟨z0, z1, z2⟩ := cells3v HS.out.2.2.2.1
      obtain ⟨f0, f1, f2⟩ := frozen3v HS.out.2.2.2.1
      have HSt := Lib.hid (HS.out.2.2.2.1.store3v (.int .i64 a) (.int .i64 k) (.slice (some ⟨g, 0, none⟩) N N))
      have HRow := Lib.hid (show Row (((wr.setCell ⟨z + 1, 0, none⟩ (.int .i64 a)).setCell ⟨z + 1, 1, none⟩ (.int .i64 k)).setCell ⟨z + 1, 2, none⟩ (.slice (some ⟨g, 0, none⟩) N N)) (some ⟨g, 0, none⟩) (f64s T) from row_of_blk (((HS.out.2.1.other (p := ⟨z + 1, _, none⟩) (by simp; omega) (.int .i64 a)).other (p := ⟨z + 1, _, none⟩) (by simp; omega) (.int .i64 k)).other (p := ⟨z + 1, _, none⟩) (by simp; omega) (.slice (some ⟨g, 0, none⟩) N N)))
      have HBel := Lib.hid (show Below z w (((wr.setCell ⟨z + 1, 0, none⟩ (.int .i64 a)).setCell ⟨z + 1, 1, none⟩ (.int .i64 k)).setCell ⟨z + 1, 2, none⟩ (.slice (some ⟨g, 0, none⟩) N N)) from (((HS.out.2.2.2.2.2.setCell (p := ⟨z + 1, 0, none⟩) (by simp) (.int .i64 a)).setCell (p := ⟨z + 1, 1, none⟩) (by simp) (.int .i64 k)).setCell (p := ⟨z + 1, 2, none⟩) (by simp) (.slice (some ⟨g, 0, none⟩) N N)))
      go_wp2_with fail
      generalize (((wr.setCell ⟨z + 1, 0, none⟩ (.int .i64 a)).setCell ⟨z + 1, 1, none⟩ (.int .i64 k)).setCell ⟨z + 1, 2, none⟩ (.slice (some ⟨g, 0, none⟩) N N)) = W9 at *
      obtain ⟨j0, j1, j2⟩ := cells3v HSt.out
      rw [HZ.out]
      have ht := HS.out.1
      rw [HN.out] at ht
      refine bodyPost_ret (v := tbl a k g N N) (by simp [results, Try.results10, go_sem, j0, j1, j2, tbl]) rfl ⟨g, rfl, T, ht, HRow.out, by omega, HBel.out⟩
end Go.Proofs.Ytelpdbkkefpjhaa
