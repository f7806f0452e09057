/-
Numbers of a matrix, column by column. Conditions: the matrix is right, its list has at most 2^20 numbers.
-/
import Derived.Test.YtelpdbkkefpjhaaWKi
import Derived.OwnWalk
set_option linter.unusedVariables false
set_option linter.unusedSimpArgs false
namespace Go.Proofs.Ytelpdbkkefpjhaa
open Go.RowKit
attribute [local go_sem ↓] Go.wp_at_zero Go.wp_at_succ

/-- The numbers of the first columns, column by column. -/
def colsL (l : List Nat) (o R L : Nat) : Nat → List Nat
  | 0 => []
  | j + 1 => colsL l o R L j ++ lst l (o + j * L) 1 R
theorem colsL_length (l : List Nat) (o R L : Nat) : ∀ j, (colsL l o R L j).length = j * R
  | 0 => by simp [colsL]
  | j + 1 => by rw [colsL, List.length_append, colsL_length l o R L j, lst_length, Nat.add_mul]; omega
theorem colsL_getD (l : List Nat) (o R L : Nat) {a b : Nat} (ha : a < R) : ∀ {j : Nat}, b < j → (colsL l o R L j).getD (b * R + a) 0 = l.getD (o + a + b * L) 0
  | 0, h => by omega
  | j + 1, h => by
    have hlen := colsL_length l o R L j
    rw [colsL]
    by_cases hb : b < j
    · have h1 : b * R + a < j * R := by
        have : (b + 1) * R ≤ j * R := Nat.mul_le_mul_right _ (by omega)
        rw [Nat.add_mul] at this; omega
      rw [List.getD_eq_getElem?_getD, List.getElem?_append_left (by omega), ← List.getD_eq_getElem?_getD]
      exact colsL_getD l o R L ha hb
    · obtain rfl : b = j := by omega
      rw [List.getD_eq_getElem?_getD, List.getElem?_append_right (by omega), ← List.getD_eq_getElem?_getD, hlen, show b * R + a - b * R = a by omega, lst_getD l _ 1 ha]
      congr 1
      omega
theorem mat_size {n o R C L : Nat} (hR : R ≤ L) (hr : R = 0 ∨ C = 0 ∨ o + (C - 1) * L + (R - 1) < n) : R * C ≤ n := by
  by_cases h0 : R = 0
  · subst h0; simp
  by_cases h1 : C = 0
  · subst h1; simp
  have h2 : (C - 1) * R ≤ (C - 1) * L := Nat.mul_le_mul_left _ hR
  have h3 : R * C = (C - 1) * R + R := by
    obtain ⟨C', rfl⟩ : ∃ C', C = C' + 1 := ⟨C - 1, by omega⟩
    rw [Nat.add_sub_cancel, Nat.mul_add, Nat.mul_comm]; omega
  omega
theorem colsL_wds {l : List Nat} (h : Wds l) (o R L : Nat) : ∀ j, Wds (colsL l o R L j)
  | 0 => by intro b hb; cases hb
  | j + 1 => by
    intro b hb
    rw [colsL, List.mem_append] at hb
    rcases hb with hb | hb
    · exact colsL_wds h o R L j b hb
    · unfold lst at hb
      obtain ⟨i, _, rfl⟩ := List.mem_map.1 hb
      rcases Nat.lt_or_ge (o + j * L + i * 1) l.length with h1 | h1
      · rw [getD_of_lt h1]; exact h.at_ _ h1
      · rw [getD_of_le h1]; omega
theorem f64s_app (l m : List Nat) : f64s (l ++ m) = f64s l ++ f64s m := by simp [f64s]

theorem owns_nxt {w w' : World} {B : Nat} {e : TypeId} {s : Nat} {v : Value} {n : Nat} {xs : List Value} (h : w.ownsRow B e s v n xs) (hb : Below w.heap.size w w') : w'.ownsRow B e s v n xs := by
  refine ⟨h.1, h.2.imp id ?_⟩
  rintro ⟨g, cap, cur, h1, h2, h3, h4⟩
  have hg : g < w.heap.size := by
    rcases Nat.lt_or_ge g w.heap.size with hl | hl
    · exact hl
    · rw [Array.getElem?_eq_none hl] at h3; cases h3
  exact ⟨g, cap, cur, h1, h2, (hb.block g hg).trans h3, h4⟩

theorem own_row3 {w : World} {B : Nat} {v : Value} {n : Nat} {l : List Nat} (h : w.ownsRow B 45 1 v n (f64s l)) (hn : n = l.length) : ∃ A c, v = .slice A n c ∧ Row w A (f64s l) ∧ (∀ b o, A = some ⟨b, o, none⟩ → B ≤ b) ∧ n ≤ c := by
  by_cases hv : v = .slice none 0 0
  · subst hv
    have hl := h.1
    obtain ⟨_, ⟨_, h0⟩ | ⟨g, cap, cur, h1, _⟩⟩ := h
    · subst h0
      have : l = [] := List.length_eq_zero_iff.1 hn.symm
      subst this
      exact ⟨none, 0, rfl, .inl rfl, (fun b o e => by cases e), Nat.le_refl _⟩
    · cases h1
  · obtain ⟨g, c, rfl, hg, hc, _, ho⟩ := own_of h hv hn
    exact ⟨_, c, rfl, ho.row, (fun b o e => by injection e with e; injection e with e _; omega), hc⟩
/-- What Numbers comes to, with its room. -/
def Numr (N : Nat) (X : List Nat) (w : World) (e : Ending) (w' : World) : Prop := ∃ B d, e = .returned (.slice B N d) ∧ Row w' B (f64s X) ∧ (∀ b o, B = some ⟨b, o, none⟩ → w.heap.size ≤ b) ∧ N ≤ d ∧ Below w.heap.size w w'
/-- What Numbers comes to. -/
def Numd (N : Nat) (X : List Nat) (w : World) (e : Ending) (w' : World) : Prop := ∃ B d, e = .returned (.slice B N d) ∧ Row w' B (f64s X) ∧ (∀ b o, B = some ⟨b, o, none⟩ → w.heap.size ≤ b) ∧ Below w.heap.size w w'
theorem numbers_none (A : Option Addr) (n c : Nat) (o R C L : Nat) (w : World) (hn : n < 1048576) (hgd : matB n o R C L = true) (hb : o < 9223372036854775808 ∧ R < 9223372036854775808 ∧ C < 9223372036854775808 ∧ L < 9223372036854775808) (h0 : R = 0 ∨ C = 0) :
    Calls Try.prog 54 #[mat A n c o R C L] w fun e w' => e = .returned (.slice none 0 0) ∧ Below w.heap.size w w' := by
  have HG := Lib.hid (fun W => good_any A n c o R C L W (by omega) (by unfold I64; omega) (by unfold I64; omega) (by unfold I64; omega) (by unfold I64; omega))
  rw [hgd] at HG
  have HNo := Lib.hid (fun W => none_any A n c o R C L W)
  rw [show (((R : Int) == 0) || ((C : Int) == 0)) = true by simp; omega] at HNo
  clear hn hgd hb h0
  unfold mat at *
  go_enter Try.func54, Try.ntmps54
  have HZ0 := Lib.hid (Blk.new w 24 #[.slice A n c, .int .i64 o, .int .i64 R, .int .i64 C, .int .i64 L])
  have HB0 := Lib.hid ((Below.refl w.heap.size w).alloc (Nat.le_refl _) (.cells #[.slice A n c, .int .i64 o, .int .i64 R, .int .i64 C, .int .i64 L] 24))
  go_wp2_with fail
  refine (HG.out _).mono ?_
  rintro e w1 ⟨rfl, hb⟩
  have HZ1 := Lib.hid (HZ0.out.nxt hb)
  have HB1 := Lib.hid (below_nx HB0.out hb)
  clear hb
  obtain ⟨c0, c1, c2, c3, c4⟩ := cells5 HZ1.out
  go_wp2_with fail
  refine (HNo.out _).mono ?_
  rintro e w2 ⟨rfl, hb⟩
  have HB2 := Lib.hid (below_nx HB1.out hb)
  clear hb c0 c1 c2 c3 c4
  go_wp2_with fail
  go_ret
  exact ⟨rfl, HB2.out⟩

theorem nm_facts {R C N n : Nat} (hN : R * C = N) (hNn : N ≤ n) (hn : n < 1048576) (hR0 : R ≠ 0) :
    (R : Int) * (C : Int) = (N : Int) ∧ wrap64 (N : Int) = (N : Int) ∧ IntKind.i64.wrap (N : Int) = (N : Int) ∧ (∀ j, j ≤ C → j * R ≤ N) ∧ C * R = N ∧ N < 1048576 ∧ C < 1048576 := by
  have h1 : C * 1 ≤ C * R := Nat.mul_le_mul_left _ (by omega)
  have h2 : C * R = N := by rw [← hN, Nat.mul_comm]
  have h3 : (R : Int) * (C : Int) = (N : Int) := by rw [← hN, Int.natCast_mul]
  clear hN
  refine ⟨h3, ?_, ?_, fun j hj => ?_, h2, by omega, by omega⟩
  · clear h3; exact wrap_id (by unfold I64; omega)
  · clear h3; exact wrapi (by omega) (by omega)
  · rw [← h2]; exact Nat.mul_le_mul_right _ hj

theorem row_sub {w W : World} {b x P R : Nat} {l : List Nat} (hA : Row w (some ⟨b, x, none⟩) (f64s l)) (hb : Below w.heap.size w W) (hP : P + R ≤ l.length) (i : Nat) (u : Value) (h : (f64s (lst l P 1 R))[i]? = some u) : W.cell? ⟨b, x + P + i, none⟩ = some u := by
  obtain ⟨hi', rfl⟩ := f64s_get? h
  have hi2 := hi'
  rw [lst_length] at hi2
  have hPl : P + i < l.length := by omega
  rcases hA with h0 | ⟨b', x', e', hc⟩
  · have : l = [] := by simpa [f64s] using h0
    subst this; simp at hPl
  · injection e' with e'; injection e' with e1 e2
    subst e1; subst e2
    have h2 := hc (P + i) _ (f64s_get l _ hPl)
    have h3 := cell_below h2 hb
    have h4 : (lst l P 1 R)[i] = l[P + i] := by
      rw [← getD_of_lt hi', lst_getD l P 1 hi2, Nat.mul_one, getD_of_lt hPl]
    rw [h4, Nat.add_assoc]; exact h3
theorem addr_at (b o j : Nat) : (⟨b, o, none⟩ : Addr).add j = ⟨b, o + j, none⟩ := by unfold Addr.add; split <;> simp_all
theorem nm_ne {P R n c : Nat} (hP : P + R ≤ n) (hnc : n ≤ c) (hR : 1 ≤ R) : ¬ c = P := by omega
theorem nm_step {P R n c : Nat} (hP : P + R ≤ n) (hnc : n ≤ c) (hn : n < 1048576) : ∃ Q1 : Nat, P + R = Q1 ∧ (P : Int) + (R : Int) = (Q1 : Int) ∧ IntKind.i64.wrap (Q1 : Int) = (Q1 : Int) ∧ wrap64 (Q1 : Int) = (Q1 : Int) ∧ Q1 - P = R ∧ (P : Int) ≤ (Q1 : Int) ∧ (Q1 : Int) ≤ (c : Int) ∧ (0 : Int) ≤ (P : Int) :=
  ⟨P + R, rfl, by omega, wrapi (by omega) (by omega), wrap_id (by unfold I64; omega), by omega, by omega, by omega, by omega⟩
set_option maxRecDepth 100000 in
set_option maxHeartbeats 300000 in
theorem numbers_room (b x : Nat) (n c : Nat) (l : List Nat) (o R C L N : Nat) (w : World) (hA : Row w (some ⟨b, x, none⟩) (f64s l)) (hl : l.length = n) (hnc : n ≤ c) (hn : n < 1048576) (hgd : matB n o R C L = true) (hb : o < 9223372036854775808 ∧ R < 9223372036854775808 ∧ C < 9223372036854775808 ∧ L < 9223372036854775808) (hN : R * C = N) (hNn : N ≤ n) (hR0 : R ≠ 0) (hC0 : C ≠ 0) (hrr : o + (C - 1) * L + (R - 1) < n) :
    Calls Try.prog 54 #[mat (some ⟨b, x, none⟩) n c o R C L] w fun e w' => Numr N (colsL l o R L C) w e w' := by
  obtain ⟨i0, hi, hz0, hz1, hz2⟩ := fi0
  have HG := Lib.hid (fun W => good_any (some ⟨b, x, none⟩) n c o R C L W (by omega) (by unfold I64; omega) (by unfold I64; omega) (by unfold I64; omega) (by unfold I64; omega))
  rw [hgd] at HG
  have HNo := Lib.hid (fun W => none_any (some ⟨b, x, none⟩) n c o R C L W)
  rw [show (((R : Int) == 0) || ((C : Int) == 0)) = false by simp; omega] at HNo
  have HP := Lib.hid (fun j (hj : j < C) => show o + j * L + R ≤ n from by
    have h1 : j * L ≤ (C - 1) * L := Nat.mul_le_mul_right _ (by omega)
    omega)
  have HPl := Lib.hid (fun W j (hj : j < C) => place_any (some ⟨b, x, none⟩) n c o R C L 0 j ((o + j * L : Nat) : Int) W (by simp) (by unfold I64; have := HP.out j hj; omega) (by
    have := HP.out j hj
    have e : ((j : Int) * (L : Int)) = ((j * L : Nat) : Int) := by simp
    rw [e]; unfold I64; omega) (by unfold I64; have := HP.out j hj; omega))
  have HA := Lib.hid hA
  have Hl := Lib.hid hl
  obtain ⟨hN2, hwN, hwN2, hCN, hCe, hNb, hCb⟩ := nm_facts hN hNn hn hR0
  have HCN := Lib.hid hCN
  have HCe := Lib.hid hCe
  clear hCN hCe
  have hnc1 : (n : Int) ≤ (c : Int) := by omega
  have hR1 : 1 ≤ R := by omega
  clear hA hl hgd hb hN hrr hR0 hC0
  unfold mat at *
  go_enter Try.func54, Try.ntmps54
  have HZ0 := Lib.hid (Blk.new w 24 #[.slice (some ⟨b, x, none⟩) n c, .int .i64 o, .int .i64 R, .int .i64 C, .int .i64 L])
  have HB0 := Lib.hid ((Below.refl w.heap.size w).alloc (Nat.le_refl _) (.cells #[.slice (some ⟨b, x, none⟩) n c, .int .i64 o, .int .i64 R, .int .i64 C, .int .i64 L] 24))
  go_wp2_with fail
  refine (HG.out _).mono ?_
  rintro e w1 ⟨rfl, hb⟩
  have HZ1 := Lib.hid (HZ0.out.nxt hb)
  have HB1 := Lib.hid (below_nx HB0.out hb)
  clear hb
  obtain ⟨c0, c1, c2, c3, c4⟩ := cells5 HZ1.out
  go_wp2_with fail
  refine (HNo.out _).mono ?_
  rintro e w2 ⟨rfl, hb⟩
  have HZ2 := Lib.hid (HZ1.out.nxt hb)
  have HB2 := Lib.hid (below_nx HB1.out hb)
  clear hb c0 c1 c2 c3 c4
  obtain ⟨c0, c1, c2, c3, c4⟩ := cells5 HZ2.out
  have hz2l := HZ2.out.lt
  go_wp2_with (at_make; refine wpList_make_own _ rfl _ _ 22 rfl (w.heap.size + 1) 45 i0 (.float .f64 0) 1 Try.underlying22 hi hz0 hz1 .i64 .i64 (N : Int) N rfl (by simp [Act.eval, hN2, hwN2]) rfl ?m1 ?m2 ?m3 ?_)
  case m1 => rw [hz2]; omega
  case m2 => unfold maxLen; omega
  case m3 => omega
  intro w3 hown hgrow
  have HOw := Lib.hid hown
  have hO : Below w2.heap.size w2 w3 := ⟨hgrow.os, hgrow.tape, hgrow.output, hgrow.size, fun k hk => hgrow.block k hk (fun e => by cases e)⟩
  have HZ3 := Lib.hid (HZ2.out.nxt hO)
  have HB3 := Lib.hid (below_nx HB2.out hO)
  have hsz3 := hO.size
  clear hown hgrow hO c0 c1 c2 c3 c4
  obtain ⟨c0, c1, c2, c3, c4⟩ := cells5 HZ3.out
  generalize hz : w.heap.size = z at *
  have Hz := Lib.hid hz
  clear hz
  go_wp2_with fail
  clear c0 c1 c2 c3 c4 hN2 hwN hwN2
  go_loopw [3, 21] (fun out a wr => ∃ q : Nat, q ≤ C ∧ a = .int .i64 q ∧ wr.ownsRow (z + 1) 45 1 out (q * R) (f64s (colsL l o R L q)) ∧ Below z w wr ∧ Blk wr z 24 #[.slice (some ⟨b, x, none⟩) n c, .int .i64 o, .int .i64 R, .int .i64 C, .int .i64 L] ∧ z + 1 ≤ wr.heap.size) (fun _ a _ => C - (intOf a).toNat)
  case atStart => exact ⟨0, Nat.zero_le _, rfl, by rw [Nat.zero_mul]; exact HOw.out, HB3.out, HZ3.out, by omega⟩
  case round =>
    obtain ⟨q, hq, rfl, hown, hbl, hbz, hsz⟩ := hrel
    have HOw1 := Lib.hid hown
    have HBl := Lib.hid hbl
    have HBz := Lib.hid hbz
    have HSz := Lib.hid hsz
    clear hown hbl hbz hsz
    obtain ⟨c0, c1, c2, c3, c4⟩ := cells5 HBz.out
    by_cases hlt : q < C
    · have hP := HP.out q hlt
      have HPq := Lib.hid (fun W => HPl.out W q hlt)
      obtain ⟨P, hPd⟩ : ∃ P, o + q * L = P := ⟨_, rfl⟩
      rw [hPd] at hP HPq
      have hqN : (q + 1) * R ≤ N := HCN.out (q + 1) (by omega)
      have hqe : (q + 1) * R = q * R + R := by rw [Nat.add_mul]; omega
      have hstep : f64s (colsL l o R L (q + 1)) = f64s (colsL l o R L q) ++ f64s (lst l P 1 R) := by rw [colsL, f64s_app, hPd]
      have HStep := Lib.hid hstep
      have HQe := Lib.hid hqe
      have HQN := Lib.hid (show q * R + R ≤ N by rw [← hqe]; exact hqN)
      clear hPd hstep hqe hqN
      have hqc : (q : Int) < (C : Int) := by omega
      have hq1 : q + 1 ≤ 1048576 := by omega
      obtain ⟨Q1, hQ1, hPR0, hPR, hPR2, hQR, hb1, hb2, hb3⟩ := nm_step hP hnc hn
      have hcP : ¬ c = P := nm_ne hP hnc hR1
      clear hQ1
      go_wp2_with fail
      refine (HPq.out _).mono ?_
      rintro e w4 ⟨rfl, hb⟩
      have HOw2 := Lib.hid (show w4.ownsRow (z + 1) 45 1 _ (q * R) (f64s (colsL l o R L q)) from owns_nxt HOw1.out hb)
      have HBl2 := Lib.hid (show Below z w w4 from HBl.out.trans (hb.mono (Nat.le_of_lt HBz.out.lt)))
      have HBz2 := Lib.hid (HBz.out.nxt hb)
      have HSz2 := Lib.hid (show z + 1 ≤ w4.heap.size from Nat.le_trans HSz.out hb.size)
      have HRs := Lib.hid (row_sub HA.out (show Below w.heap.size w w4 by rw [Hz.out]; exact HBl2.out) (show P + R ≤ l.length by rw [Hl.out]; exact hP))
      clear hb c0 c1 c2 c3 c4
      obtain ⟨c0, c1, c2, c3, c4⟩ := cells5 HBz2.out
      go_wp2_with (at_builtin; refine wpList_append_own _ rfl _ _ 22 rfl (z + 1) 45 i0 (.float .f64 0) 1 8 Try.underlying22 hi hz0 hz1 hz2 rfl (by decide) _ (q * R) (f64s (colsL l o R L q)) rfl HOw2.out ⟨b, x + P, none⟩ R (c - P) (f64s (lst l P 1 R)) (by simp [Act.eval, hQR, hcP]) (by simp [f64s, lst_length]) ?c1 (one_cells _) ?c3 ?c4 ?c5 ?_)
      case c1 => intro j u hu; rw [addr_at]; exact HRs.out j u hu
      case c3 => exact Nat.le_trans HQN.out (by unfold maxLen; omega)
      case c4 => exact Nat.le_trans (Nat.mul_le_mul_right 8 HQN.out) (by omega)
      case c5 => exact HSz2.out
      intro v' w' hown' hgrow _
      rw [← HStep.out, ← HQe.out] at hown'
      have HOw3 := Lib.hid hown'
      have hlt2 := fun k hk => (HOw2.out.lt k hk)
      have hz2' := HBz2.out.lt
      have HBl3 := Lib.hid (HBl2.out.grown hgrow (by omega) (fun k hk => by have := (hlt2 k hk).1; omega))
      have HBz3 := Lib.hid (show Blk w' z 24 #[.slice (some ⟨b, x, none⟩) n c, .int .i64 o, .int .i64 R, .int .i64 C, .int .i64 L] from (hgrow.block z hz2' (fun e => by have := (hlt2 z e.symm).1; omega)).trans HBz2.out)
      have HSz3 := Lib.hid (show z + 1 ≤ w'.heap.size from Nat.le_trans HSz2.out hgrow.size)
      clear hown' hgrow hlt2 hz2' c0 c1 c2 c3 c4
      go_wp2_with fail
      go_roundw
      case rel => exact ⟨q + 1, by omega, by go_num, HOw3.out, HBl3.out, HBz3.out, HSz3.out⟩
      case measure => simp [intOf]; omega
    · obtain rfl : q = C := by omega
      have hqc : ¬ (q : Int) < (q : Int) := by omega
      obtain ⟨A', c', rfl, hrow, hbb, hcc'⟩ := own_row3 HOw1.out (by rw [colsL_length])
      have HCc := Lib.hid hcc'
      have HBb := Lib.hid hbb
      have HRow := Lib.hid hrow
      have e9 := HCe.out
      clear hrow hbb hcc'
      go_wp2_with fail
      go_ret
      exact ⟨A', c', rfl, HRow.out, fun b o e => by have := HBb.out b o e; have := Hz.out; omega, by rw [← HCe.out]; exact HCc.out, by rw [Hz.out]; exact HBl.out⟩
theorem numbers_some (b x : Nat) (n c : Nat) (l : List Nat) (o R C L N : Nat) (w : World) (hA : Row w (some ⟨b, x, none⟩) (f64s l)) (hl : l.length = n) (hnc : n ≤ c) (hn : n < 1048576) (hgd : matB n o R C L = true) (hb : o < 9223372036854775808 ∧ R < 9223372036854775808 ∧ C < 9223372036854775808 ∧ L < 9223372036854775808) (hN : R * C = N) (hNn : N ≤ n) (hR0 : R ≠ 0) (hC0 : C ≠ 0) (hrr : o + (C - 1) * L + (R - 1) < n) :
    Calls Try.prog 54 #[mat (some ⟨b, x, none⟩) n c o R C L] w fun e w' => Numd N (colsL l o R L C) w e w' :=
  (numbers_room b x n c l o R C L N w hA hl hnc hn hgd hb hN hNn hR0 hC0 hrr).mono fun e w' ⟨B, d, h1, h2, h3, _, h4⟩ => ⟨B, d, h1, h2, h3, h4⟩
end Go.Proofs.Ytelpdbkkefpjhaa
