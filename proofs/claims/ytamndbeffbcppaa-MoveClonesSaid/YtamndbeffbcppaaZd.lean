/-
Numbers of a matrix, column by column. Conditions: the matrix is right, its list has at most 2^20 numbers.
-/
import Derived.Test.YtamndbeffbcppaaZc
import Derived.OwnWalk
import Derived.Test.YtamndbeffbcppaaInv
import Derived.Laws.CopyRow
import Derived.Laws.IdiomCopy
import Derived.Test.YtamndbeffbcppaaZa
import Derived.Test.YtamndbeffbcppaaZb
set_option linter.unusedVariables false
set_option linter.unusedSimpArgs false
namespace Go.Proofs.Ytamndbeffbcppaa
open Go.RowKit
attribute [local go_sem ↓] Go.wp_at_zero Go.wp_at_succ

/-- The numbers of the first columns, column by column. -/
def colsL (l : List Nat) (o R L : Nat) : Nat → List Nat
  | 0 => []
  | j + 1 => colsL l o R L j ++ lst l (o + j * L) 1 R
theorem colsL_length (l : List Nat) (o R L : Nat) : ∀ j, (colsL l o R L j).length = j * R
  | 0 => by simp [colsL]
  | j + 1 => by rw [colsL, List.length_append, colsL_length l o R L j, lst_length, Nat.add_mul]; omega
theorem colsL_getD (l : List Nat) (o R L : Nat) {a b : Nat} (ha : a < R) : ∀ {j : Nat}, b < j → (colsL l o R L j).getD (b * R + a) 0 = l.getD (o + a + b * L) 0
  | 0, h => by omega
  | j + 1, h => by
    have hlen := colsL_length l o R L j
    rw [colsL]
    by_cases hb : b < j
    · have h1 : b * R + a < j * R := by
        have : (b + 1) * R ≤ j * R := Nat.mul_le_mul_right _ (by omega)
        rw [Nat.add_mul] at this; omega
      rw [List.getD_eq_getElem?_getD, List.getElem?_append_left (by omega), ← List.getD_eq_getElem?_getD]
      exact colsL_getD l o R L ha hb
    · obtain rfl : b = j := by omega
      rw [List.getD_eq_getElem?_getD, List.getElem?_append_right (by omega), ← List.getD_eq_getElem?_getD, hlen, show b * R + a - b * R = a by omega, lst_getD l _ 1 ha]
      congr 1
      omega
theorem mat_size {n o R C L : Nat} (hR : R ≤ L) (hr : R = 0 ∨ C = 0 ∨ o + (C - 1) * L + (R - 1) < n) : R * C ≤ n := by
  by_cases h0 : R = 0
  · subst h0; simp
  by_cases h1 : C = 0
  · subst h1; simp
  have h2 : (C - 1) * R ≤ (C - 1) * L := Nat.mul_le_mul_left _ hR
  have h3 : R * C = (C - 1) * R + R := by
    obtain ⟨C', rfl⟩ : ∃ C', C = C' + 1 := ⟨C - 1, by omega⟩
    rw [Nat.add_sub_cancel, Nat.mul_add, Nat.mul_comm]; omega
  omega
theorem colsL_wds {l : List Nat} (h : Wds l) (o R L : Nat) : ∀ j, Wds (colsL l o R L j)
  | 0 => by intro b hb; cases hb
  | j + 1 => by
    intro b hb
    rw [colsL, List.mem_append] at hb
    rcases hb with hb | hb
    · exact colsL_wds h o R L j b hb
    · unfold lst at hb
      obtain ⟨i, _, rfl⟩ := List.mem_map.1 hb
      rcases Nat.lt_or_ge (o + j * L + i * 1) l.length with h1 | h1
      · rw [getD_of_lt h1]; exact h.at_ _ h1
      · rw [getD_of_le h1]; omega
theorem f64s_app (l m : List Nat) : f64s (l ++ m) = f64s l ++ f64s m := by simp [f64s]

theorem owns_nxt {w w' : World} {B : Nat} {e : TypeId} {s : Nat} {v : Value} {n : Nat} {xs : List Value} (h : w.ownsRow B e s v n xs) (hb : Below w.heap.size w w') : w'.ownsRow B e s v n xs := by
  refine ⟨h.1, h.2.imp id ?_⟩
  rintro ⟨g, cap, cur, h1, h2, h3, h4⟩
  have hg : g < w.heap.size := by
    rcases Nat.lt_or_ge g w.heap.size with hl | hl
    · exact hl
    · rw [Array.getElem?_eq_none hl] at h3; cases h3
  exact ⟨g, cap, cur, h1, h2, (hb.block g hg).trans h3, h4⟩

theorem own_row2 {w : World} {B : Nat} {v : Value} {n : Nat} {l : List Nat} (h : w.ownsRow B 48 1 v n (f64s l)) (hn : n = l.length) : ∃ A c, v = .slice A n c ∧ Row w A (f64s l) ∧ ∀ b o, A = some ⟨b, o, none⟩ → B ≤ b := by
  by_cases hv : v = .slice none 0 0
  · subst hv
    have hl := h.1
    obtain ⟨_, ⟨_, h0⟩ | ⟨g, cap, cur, h1, _⟩⟩ := h
    · subst h0
      have : l = [] := List.length_eq_zero_iff.1 hn.symm
      subst this
      exact ⟨none, 0, rfl, .inl rfl, fun b o e => by cases e⟩
    · cases h1
  · obtain ⟨g, c, rfl, hg, _, _, ho⟩ := own_of h hv hn
    exact ⟨_, c, rfl, ho.row, fun b o e => by injection e with e; injection e with e _; omega⟩

/-- What Numbers comes to. -/
def Numd (N : Nat) (X : List Nat) (w : World) (e : Ending) (w' : World) : Prop := ∃ B d, e = .returned (.slice B N d) ∧ Row w' B (f64s X) ∧ (∀ b o, B = some ⟨b, o, none⟩ → w.heap.size ≤ b) ∧ Below w.heap.size w w'
theorem numbers_none (A : Option Addr) (n c : Nat) (o R C L : Nat) (w : World) (hn : n < 1048576) (hgd : matB n o R C L = true) (hb : o < 9223372036854775808 ∧ R < 9223372036854775808 ∧ C < 9223372036854775808 ∧ L < 9223372036854775808) (h0 : R = 0 ∨ C = 0) :
    Calls Try.prog 49 #[mat A n c o R C L] w fun e w' => e = .returned (.slice none 0 0) ∧ Below w.heap.size w w' := by
  have HG := Lib.hid (fun W => good_any A n c o R C L W (by omega) (by unfold I64; omega) (by unfold I64; omega) (by unfold I64; omega) (by unfold I64; omega))
  rw [hgd] at HG
  have HNo := Lib.hid (fun W => none_any A n c o R C L W)
  rw [show (((R : Int) == 0) || ((C : Int) == 0)) = true by simp; omega] at HNo
  clear hn hgd hb h0
  unfold mat at *
  go_enter Try.func49, Try.ntmps49
  have HZ0 := Lib.hid (Blk.new w 24 #[.slice A n c, .int .i64 o, .int .i64 R, .int .i64 C, .int .i64 L])
  have HB0 := Lib.hid ((Below.refl w.heap.size w).alloc (Nat.le_refl _) (.cells #[.slice A n c, .int .i64 o, .int .i64 R, .int .i64 C, .int .i64 L] 24))
  go_wp2_with fail
  refine (HG.out _).mono ?_
  rintro e w1 ⟨rfl, hb⟩
  have HZ1 := Lib.hid (HZ0.out.nxt hb)
  have HB1 := Lib.hid (below_nx HB0.out hb)
  clear hb
  obtain ⟨c0, c1, c2, c3, c4⟩ := cells5 HZ1.out
  go_wp2_with fail
  refine (HNo.out _).mono ?_
  rintro e w2 ⟨rfl, hb⟩
  have HB2 := Lib.hid (below_nx HB1.out hb)
  clear hb c0 c1 c2 c3 c4
  go_wp2_with fail
  go_ret
  exact ⟨rfl, HB2.out⟩

theorem nm_facts {R C N n : Nat} (hN : R * C = N) (hNn : N ≤ n) (hn : n < 1048576) (hR0 : R ≠ 0) :
    (R : Int) * (C : Int) = (N : Int) ∧ wrap64 (N : Int) = (N : Int) ∧ IntKind.i64.wrap (N : Int) = (N : Int) ∧ (∀ j, j ≤ C → j * R ≤ N) ∧ C * R = N ∧ N < 1048576 ∧ C < 1048576 := by
  have h1 : C * 1 ≤ C * R := Nat.mul_le_mul_left _ (by omega)
  have h2 : C * R = N := by rw [← hN, Nat.mul_comm]
  have h3 : (R : Int) * (C : Int) = (N : Int) := by rw [← hN, Int.natCast_mul]
  clear hN
  refine ⟨h3, ?_, ?_, fun j hj => ?_, h2, by omega, by omega⟩
  · clear h3; exact wrap_id (by unfold I64; omega)
  · clear h3; exact wrapi (by omega) (by omega)
  · rw [← h2]; exact Nat.mul_le_mul_right _ hj

theorem row_sub {w W : World} {b x P R : Nat} {l : List Nat} (hA : Row w (some ⟨b, x, none⟩) (f64s l)) (hb : Below w.heap.size w W) (hP : P + R ≤ l.length) (i : Nat) (u : Value) (h : (f64s (lst l P 1 R))[i]? = some u) : W.cell? ⟨b, x + P + i, none⟩ = some u := by
  obtain ⟨hi', rfl⟩ := f64s_get? h
  have hi2 := hi'
  rw [lst_length] at hi2
  have hPl : P + i < l.length := by omega
  rcases hA with h0 | ⟨b', x', e', hc⟩
  · have : l = [] := by simpa [f64s] using h0
    subst this; simp at hPl
  · injection e' with e'; injection e' with e1 e2
    subst e1; subst e2
    have h2 := hc (P + i) _ (f64s_get l _ hPl)
    have h3 := cell_below h2 hb
    have h4 : (lst l P 1 R)[i] = l[P + i] := by
      rw [← getD_of_lt hi', lst_getD l P 1 hi2, Nat.mul_one, getD_of_lt hPl]
    rw [h4, Nat.add_assoc]; exact h3
theorem addr_at (b o j : Nat) : (⟨b, o, none⟩ : Addr).add j = ⟨b, o + j, none⟩ := by unfold Addr.add; split <;> simp_all
theorem nm_ne {P R n c : Nat} (hP : P + R ≤ n) (hnc : n ≤ c) (hR : 1 ≤ R) : ¬ c = P := by omega
theorem nm_step {P R n c : Nat} (hP : P + R ≤ n) (hnc : n ≤ c) (hn : n < 1048576) : ∃ Q1 : Nat, P + R = Q1 ∧ (P : Int) + (R : Int) = (Q1 : Int) ∧ IntKind.i64.wrap (Q1 : Int) = (Q1 : Int) ∧ wrap64 (Q1 : Int) = (Q1 : Int) ∧ Q1 - P = R ∧ (P : Int) ≤ (Q1 : Int) ∧ (Q1 : Int) ≤ (c : Int) ∧ (0 : Int) ≤ (P : Int) :=
  ⟨P + R, rfl, by omega, wrapi (by omega) (by omega), wrap_id (by unfold I64; omega), by omega, by omega, by omega, by omega⟩
set_option maxRecDepth 100000 in
set_option maxHeartbeats 300000 in
theorem numbers_some (b x : Nat) (n c : Nat) (l : List Nat) (o R C L N : Nat) (w : World) (hA : Row w (some ⟨b, x, none⟩) (f64s l)) (hl : l.length = n) (hnc : n ≤ c) (hn : n < 1048576) (hgd : matB n o R C L = true) (hb : o < 9223372036854775808 ∧ R < 9223372036854775808 ∧ C < 9223372036854775808 ∧ L < 9223372036854775808) (hN : R * C = N) (hNn : N ≤ n) (hR0 : R ≠ 0) (hC0 : C ≠ 0) (hrr : o + (C - 1) * L + (R - 1) < n) :
    Calls Try.prog 49 #[mat (some ⟨b, x, none⟩) n c o R C L] w fun e w' => Numd N (colsL l o R L C) w e w' := by
  obtain ⟨i0, hi, hz0, hz1, hz2⟩ := fi0
  have HG := Lib.hid (fun W => good_any (some ⟨b, x, none⟩) n c o R C L W (by omega) (by unfold I64; omega) (by unfold I64; omega) (by unfold I64; omega) (by unfold I64; omega))
  rw [hgd] at HG
  have HNo := Lib.hid (fun W => none_any (some ⟨b, x, none⟩) n c o R C L W)
  rw [show (((R : Int) == 0) || ((C : Int) == 0)) = false by simp; omega] at HNo
  have HP := Lib.hid (fun j (hj : j < C) => show o + j * L + R ≤ n from by
    have h1 : j * L ≤ (C - 1) * L := Nat.mul_le_mul_right _ (by omega)
    omega)
  have HPl := Lib.hid (fun W j (hj : j < C) => place_any (some ⟨b, x, none⟩) n c o R C L 0 j ((o + j * L : Nat) : Int) W (by simp) (by unfold I64; have := HP.out j hj; omega) (by
    have := HP.out j hj
    have e : ((j : Int) * (L : Int)) = ((j * L : Nat) : Int) := by simp
    rw [e]; unfold I64; omega) (by unfold I64; have := HP.out j hj; omega))
  have HA := Lib.hid hA
  have Hl := Lib.hid hl
  obtain ⟨hN2, hwN, hwN2, hCN, hCe, hNb, hCb⟩ := nm_facts hN hNn hn hR0
  have HCN := Lib.hid hCN
  have HCe := Lib.hid hCe
  clear hCN hCe
  have hnc1 : (n : Int) ≤ (c : Int) := by omega
  have hR1 : 1 ≤ R := by omega
  clear hA hl hgd hb hN hrr hR0 hC0
  unfold mat at *
  go_enter Try.func49, Try.ntmps49
  have HZ0 := Lib.hid (Blk.new w 24 #[.slice (some ⟨b, x, none⟩) n c, .int .i64 o, .int .i64 R, .int .i64 C, .int .i64 L])
  have HB0 := Lib.hid ((Below.refl w.heap.size w).alloc (Nat.le_refl _) (.cells #[.slice (some ⟨b, x, none⟩) n c, .int .i64 o, .int .i64 R, .int .i64 C, .int .i64 L] 24))
  go_wp2_with fail
  refine (HG.out _).mono ?_
  rintro e w1 ⟨rfl, hb⟩
  have HZ1 := Lib.hid (HZ0.out.nxt hb)
  have HB1 := Lib.hid (below_nx HB0.out hb)
  clear hb
  obtain ⟨c0, c1, c2, c3, c4⟩ := cells5 HZ1.out
  go_wp2_with fail
  refine (HNo.out _).mono ?_
  rintro e w2 ⟨rfl, hb⟩
  have HZ2 := Lib.hid (HZ1.out.nxt hb)
  have HB2 := Lib.hid (below_nx HB1.out hb)
  clear hb c0 c1 c2 c3 c4
  obtain ⟨c0, c1, c2, c3, c4⟩ := cells5 HZ2.out
  have hz2l := HZ2.out.lt
  go_wp2_with (at_make; refine wpList_make_own _ rfl _ _ 22 rfl (w.heap.size + 1) 48 i0 (.float .f64 0) 1 Try.underlying22 hi hz0 hz1 .i64 .i64 (N : Int) N rfl (by simp [Act.eval, hN2, hwN2]) rfl ?m1 ?m2 ?m3 ?_)
  case m1 => rw [hz2]; omega
  case m2 => unfold maxLen; omega
  case m3 => omega
  intro w3 hown hgrow
  have HOw := Lib.hid hown
  have hO : Below w2.heap.size w2 w3 := ⟨hgrow.os, hgrow.tape, hgrow.output, hgrow.size, fun k hk => hgrow.block k hk (fun e => by cases e)⟩
  have HZ3 := Lib.hid (HZ2.out.nxt hO)
  have HB3 := Lib.hid (below_nx HB2.out hO)
  have hsz3 := hO.size
  clear hown hgrow hO c0 c1 c2 c3 c4
  obtain ⟨c0, c1, c2, c3, c4⟩ := cells5 HZ3.out
  generalize hz : w.heap.size = z at *
  have Hz := Lib.hid hz
  clear hz
  go_wp2_with fail
  clear c0 c1 c2 c3 c4 hN2 hwN hwN2
  go_loopw [3, 21] (fun out a wr => ∃ q : Nat, q ≤ C ∧ a = .int .i64 q ∧ wr.ownsRow (z + 1) 48 1 out (q * R) (f64s (colsL l o R L q)) ∧ Below z w wr ∧ Blk wr z 24 #[.slice (some ⟨b, x, none⟩) n c, .int .i64 o, .int .i64 R, .int .i64 C, .int .i64 L] ∧ z + 1 ≤ wr.heap.size) (fun _ a _ => C - (intOf a).toNat)
  case atStart => exact ⟨0, Nat.zero_le _, rfl, by rw [Nat.zero_mul]; exact HOw.out, HB3.out, HZ3.out, by omega⟩
  case round =>
    obtain ⟨q, hq, rfl, hown, hbl, hbz, hsz⟩ := hrel
    have HOw1 := Lib.hid hown
    have HBl := Lib.hid hbl
    have HBz := Lib.hid hbz
    have HSz := Lib.hid hsz
    clear hown hbl hbz hsz
    obtain ⟨c0, c1, c2, c3, c4⟩ := cells5 HBz.out
    by_cases hlt : q < C
    · have hP := HP.out q hlt
      have HPq := Lib.hid (fun W => HPl.out W q hlt)
      obtain ⟨P, hPd⟩ : ∃ P, o + q * L = P := ⟨_, rfl⟩
      rw [hPd] at hP HPq
      have hqN : (q + 1) * R ≤ N := HCN.out (q + 1) (by omega)
      have hqe : (q + 1) * R = q * R + R := by rw [Nat.add_mul]; omega
      have hstep : f64s (colsL l o R L (q + 1)) = f64s (colsL l o R L q) ++ f64s (lst l P 1 R) := by rw [colsL, f64s_app, hPd]
      have HStep := Lib.hid hstep
      have HQe := Lib.hid hqe
      have HQN := Lib.hid (show q * R + R ≤ N by rw [← hqe]; exact hqN)
      clear hPd hstep hqe hqN
      have hqc : (q : Int) < (C : Int) := by omega
      have hq1 : q + 1 ≤ 1048576 := by omega
      obtain ⟨Q1, hQ1, hPR0, hPR, hPR2, hQR, hb1, hb2, hb3⟩ := nm_step hP hnc hn
      have hcP : ¬ c = P := nm_ne hP hnc hR1
      clear hQ1
      go_wp2_with fail
      refine (HPq.out _).mono ?_
      rintro e w4 ⟨rfl, hb⟩
      have HOw2 := Lib.hid (show w4.ownsRow (z + 1) 48 1 _ (q * R) (f64s (colsL l o R L q)) from owns_nxt HOw1.out hb)
      have HBl2 := Lib.hid (show Below z w w4 from HBl.out.trans (hb.mono (Nat.le_of_lt HBz.out.lt)))
      have HBz2 := Lib.hid (HBz.out.nxt hb)
      have HSz2 := Lib.hid (show z + 1 ≤ w4.heap.size from Nat.le_trans HSz.out hb.size)
      have HRs := Lib.hid (row_sub HA.out (show Below w.heap.size w w4 by rw [Hz.out]; exact HBl2.out) (show P + R ≤ l.length by rw [Hl.out]; exact hP))
      clear hb c0 c1 c2 c3 c4
      obtain ⟨c0, c1, c2, c3, c4⟩ := cells5 HBz2.out
      go_wp2_with (at_builtin; refine wpList_append_own _ rfl _ _ 22 rfl (z + 1) 48 i0 (.float .f64 0) 1 8 Try.underlying22 hi hz0 hz1 hz2 rfl (by decide) _ (q * R) (f64s (colsL l o R L q)) rfl HOw2.out ⟨b, x + P, none⟩ R (c - P) (f64s (lst l P 1 R)) (by simp [Act.eval, hQR, hcP]) (by simp [f64s, lst_length]) ?c1 (one_cells _) ?c3 ?c4 ?c5 ?_)
      case c1 => intro j u hu; rw [addr_at]; exact HRs.out j u hu
      case c3 => exact Nat.le_trans HQN.out (by unfold maxLen; omega)
      case c4 => exact Nat.le_trans (Nat.mul_le_mul_right 8 HQN.out) (by omega)
      case c5 => exact HSz2.out
      intro v' w' hown' hgrow _
      rw [← HStep.out, ← HQe.out] at hown'
      have HOw3 := Lib.hid hown'
      have hlt2 := fun k hk => (HOw2.out.lt k hk)
      have hz2' := HBz2.out.lt
      have HBl3 := Lib.hid (HBl2.out.grown hgrow (by omega) (fun k hk => by have := (hlt2 k hk).1; omega))
      have HBz3 := Lib.hid (show Blk w' z 24 #[.slice (some ⟨b, x, none⟩) n c, .int .i64 o, .int .i64 R, .int .i64 C, .int .i64 L] from (hgrow.block z hz2' (fun e => by have := (hlt2 z e.symm).1; omega)).trans HBz2.out)
      have HSz3 := Lib.hid (show z + 1 ≤ w'.heap.size from Nat.le_trans HSz2.out hgrow.size)
      clear hown' hgrow hlt2 hz2' c0 c1 c2 c3 c4
      go_wp2_with fail
      go_roundw
      case rel => exact ⟨q + 1, by omega, by go_num, HOw3.out, HBl3.out, HBz3.out, HSz3.out⟩
      case measure => simp [intOf]; omega
    · obtain rfl : q = C := by omega
      have hqc : ¬ (q : Int) < (q : Int) := by omega
      obtain ⟨A', c', rfl, hrow, hbb⟩ := own_row2 HOw1.out (by rw [colsL_length])
      have HBb := Lib.hid hbb
      have HRow := Lib.hid hrow
      have e9 := HCe.out
      clear hrow hbb
      go_wp2_with fail
      go_ret
      exact ⟨A', c', rfl, HRow.out, fun b o e => by have := HBb.out b o e; have := Hz.out; omega, by rw [Hz.out]; exact HBl.out⟩
end Go.Proofs.Ytamndbeffbcppaa
/-
Clone: a new matrix with a matrix' numbers. Conditions: the matrix is right, its list has at most 2^20 numbers, its sizes are at most 64.
-/
set_option linter.unusedVariables false
set_option linter.unusedSimpArgs false
set_option linter.unnecessarySimpa false
namespace Go.Proofs.Ytamndbeffbcppaa
open Go.RowKit
attribute [local go_sem ↓] Go.wp_at_zero Go.wp_at_succ

theorem numbers_any (A : Option Addr) (n c : Nat) (l : List Nat) (o R C L N : Nat) (w : World) (hA : Row w A (f64s l)) (hl : l.length = n) (hnc : n ≤ c) (hn : n < 1048576) (hb : o < 9223372036854775808 ∧ R < 9223372036854775808 ∧ C < 9223372036854775808 ∧ L < 9223372036854775808) (hN : R * C = N) (hL : 1 ≤ L) (hR : R ≤ L) (hr : R = 0 ∨ C = 0 ∨ o + (C - 1) * L + (R - 1) < n) :
    Calls Try.prog 49 #[mat A n c o R C L] w fun e w' => Numd N (colsL l o R L C) w e w' := by
  have hgd := mat_right hL hR hr
  by_cases h0 : R = 0 ∨ C = 0
  · have hN0 : N = 0 := by rw [← hN]; rcases h0 with rfl | rfl <;> simp
    have hX : colsL l o R L C = [] := List.length_eq_zero_iff.1 (by rw [colsL_length, Nat.mul_comm, hN, hN0])
    refine (numbers_none A n c o R C L w hn hgd hb h0).mono ?_
    rintro e w' ⟨h1, h2⟩
    exact ⟨none, 0, by rw [h1, hN0], by rw [hX]; exact .inl rfl, (fun b o e => by cases e), h2⟩
  · have hrr : o + (C - 1) * L + (R - 1) < n := by omega
    cases A with
    | some a =>
      rcases hA with h | ⟨b, x, e, hc⟩
      · have : l = [] := by simpa [f64s] using h
        subst this
        simp at hl
        omega
      · obtain rfl : a = ⟨b, x, none⟩ := by simpa using e
        exact numbers_some b x n c l o R C L N w (.inr ⟨b, x, rfl, hc⟩) hl hnc hn hgd hb hN (by rw [← hN]; exact mat_size hR hr) (by omega) (by omega) hrr
    | none =>
      rcases hA with h | ⟨b, x, h, _⟩
      · have : l = [] := by simpa [f64s] using h
        subst this
        simp at hl
        omega
      · cases h
theorem info1_f64 : (Try.prog.info? 48).map (·.size) = some 1 := by kernel_rfl
/-- What copy comes to where all goes over. -/
theorem run_copy_all (W : World) (ty : TypeId) (g N c d : Nat) (B : Option Addr) (cur : Array Value) (M : List Nat) (hg : Blk W g 48 cur) (hcur : cur.size = N) (hM : M.length = N) (hB : Row W B (f64s M)) :
    ∃ W', (Builtin.copy_ #[22, 22] ty #[.slice (some ⟨g, 0, none⟩) N c, .slice B N d]).run Try.prog W = .ok (goInt N) W' ∧ Blk W' g 48 (f64s M).toArray ∧ Only g W W' := by
  by_cases h0 : N = 0
  · subst h0
    obtain rfl : M = [] := List.length_eq_zero_iff.1 hM
    refine ⟨W, run_copy_none W _ _ _ 48 _ _ _ _ _ _ Try.underlying22 info1_f64 rfl, ?_, Only.refl _ _⟩
    have : cur = #[] := Array.eq_empty_of_size_eq_zero hcur
    subst this; exact hg
  · rcases hB with h | ⟨b, o, rfl, hc⟩
    · have : M = [] := by simpa [f64s] using h
      subst this; simp at hM; omega
    · have hlen : (f64s M).length = N := by simp [f64s, hM]
      have h1 := run_copy_row (P := Try.prog) W 22 22 ty 48 g 0 N c ⟨b, o, none⟩ N d cur 48 (f64s M) Try.underlying22 info1_f64 hg (by rw [hlen]; exact (Nat.min_self N).symm) (fun j v h => by
        have := hc j v h
        rw [addr_at]; exact this) (by rw [hlen]; omega) (one_cells M)
      have e : (List.take 0 cur.toList ++ f64s M ++ List.drop (0 + (f64s M).length) cur.toList).toArray = (f64s M).toArray := by
        rw [hlen, List.drop_eq_nil_of_le (by simp; omega)]; simp
      rw [e, hlen] at h1
      refine ⟨_, h1, setRow_heap W g cur _ _ _ hg, ⟨rfl, rfl, rfl, by simp, fun k hk hne => setRow_other W g k _ (fun e => hne (by rw [e]))⟩⟩
/-- Before and behind the copying. -/
def CopyB (W0 : World) (g : Nat) (X : List Nat) (d4 : Bool) (W : World) : Prop := (d4 = false → Below W0.heap.size W0 W) ∧ (d4 = true → Blk W g 48 (f64s X).toArray ∧ Only g W0 W)
theorem max_int (R C : Nat) : (if (R : Int) < (C : Int) then (C : Int) else (R : Int)) = ((max R C : Nat) : Int) := by split <;> omega

theorem run_max_nat (P : Program) (ts : Array TypeId) (t : TypeId) (x y : Nat) (w : World) : (Builtin.max_ ts t #[.int .i64 (x : Int), .int .i64 (y : Int)]).run P w = .ok (.int .i64 ((max x y : Nat) : Int)) w := by
  rw [← max_int]
  simp [Builtin.max_, Builtin.max2]
attribute [local go_sem ↓] run_max_nat
set_option maxRecDepth 100000 in
set_option maxHeartbeats 2000000 in
theorem clone_ok (A : Option Addr) (n c : Nat) (l : List Nat) (o R C L N D : Nat) (w : World) (hA : Row w A (f64s l)) (hl : l.length = n) (hnc : n ≤ c) (hn : n < 1048576) (hb : o < 9223372036854775808 ∧ R ≤ 64 ∧ C ≤ 64 ∧ L < 9223372036854775808) (hN : R * C = N) (hD : max 1 R = D) (hL : 1 ≤ L) (hR : R ≤ L) (hr : R = 0 ∨ C = 0 ∨ o + (C - 1) * L + (R - 1) < n) :
    Calls Try.prog 20 #[mat A n c o R C L] w fun e w' => ∃ g, e = .returned (.tuple #[mat (some ⟨g, 0, none⟩) N N 0 R C D, .int .i64 0]) ∧ Blk w' g 48 (f64s (colsL l o R L C)).toArray ∧ w.heap.size ≤ g ∧ Below w.heap.size w w' := by
  have HG := Lib.hid (fun W => good_any A n c o R C L W (by omega) (by unfold I64; omega) (by unfold I64; omega) (by unfold I64; omega) (by unfold I64; omega))
  rw [mat_right hL hR hr] at HG
  have HDn := Lib.hid (fun W => show Calls Try.prog 38 #[.int .i64 R, .int .i64 C, .slice none 0 0] W fun e w' => ∃ g M, e = .returned (mat (some ⟨g, 0, none⟩) N N 0 R C D) ∧ M.length = N ∧ Blk w' g 48 (f64s M).toArray ∧ W.heap.size ≤ g ∧ Below W.heap.size W w' from by
    refine (dense_blk none 0 [] R C W hb.2.1 hb.2.2.1 (.inl rfl) (by simp) (by simp)).mono ?_
    rintro e w' ⟨g, M, h1, h2, h3, h4, h5⟩
    exact ⟨g, M, by rw [h1, hN, hD], h2.1.trans hN, h3, h4, h5⟩)
  have HNm := Lib.hid (fun W (hb' : Below w.heap.size w W) => numbers_any A n c l o R C L N W (hA.below hb') hl hnc hn (by omega) hN hL hR hr)
  have HX := Lib.hid (show (colsL l o R L C).length = N by rw [colsL_length, Nat.mul_comm, hN])
  have hm64 : ¬ (64 : Int) < ((max R C : Nat) : Int) := by omega
  have hm65 : decide ((64 : Int) < ((max R C : Nat) : Int)) = false := decide_eq_false hm64
  generalize colsL l o R L C = X at *
  clear hA hl hnc hn hb hN hD hL hR hr
  unfold mat at *
  go_enter Try.func20, Try.ntmps20
  have HZ0 := Lib.hid ((Blk.new w 24 #[.slice A n c, .int .i64 o, .int .i64 R, .int .i64 C, .int .i64 L]).alloc (.cells #[.slice none 0 0, .int .i64 0, .int .i64 0, .int .i64 0, .int .i64 0] 24))
  have HE0 := Lib.hid (Blk.new_ (w.alloc (.cells #[.slice A n c, .int .i64 o, .int .i64 R, .int .i64 C, .int .i64 L] 24)) 24 #[.slice none 0 0, .int .i64 0, .int .i64 0, .int .i64 0, .int .i64 0] (w.heap.size + 1) (by simp))
  have HB0 := Lib.hid (((Below.refl w.heap.size w).alloc (Nat.le_refl _) (.cells #[.slice A n c, .int .i64 o, .int .i64 R, .int .i64 C, .int .i64 L] 24)).alloc (by simp) (.cells #[.slice none 0 0, .int .i64 0, .int .i64 0, .int .i64 0, .int .i64 0] 24))
  go_wp2_with fail
  refine (HG.out _).mono ?_
  rintro e w1 ⟨rfl, hb⟩
  have HZ1 := Lib.hid (HZ0.out.nxt hb)
  have HE1 := Lib.hid (HE0.out.nxt hb)
  have HB1 := Lib.hid (below_nx HB0.out hb)
  clear hb
  obtain ⟨c0, c1, c2, c3, c4⟩ := cells5 HZ1.out
  go_wp2_with fail
  refine (HDn.out _).mono ?_
  rintro e w2 ⟨g, M, rfl, hM, hBk, hg, hb⟩
  have hgz : w.heap.size + 1 < g := by have := HE1.out.lt; omega
  have hgl := hBk.lt
  have HZ2 := Lib.hid ((HZ1.out.nxt hb).alloc (.cells #[.slice (some ⟨g, 0, none⟩) N N, .int .i64 0, .int .i64 R, .int .i64 C, .int .i64 D] 24))
  have HE2 := Lib.hid ((HE1.out.nxt hb).alloc (.cells #[.slice (some ⟨g, 0, none⟩) N N, .int .i64 0, .int .i64 R, .int .i64 C, .int .i64 D] 24))
  have HT2 := Lib.hid (Blk.new w2 24 #[.slice (some ⟨g, 0, none⟩) N N, .int .i64 0, .int .i64 R, .int .i64 C, .int .i64 D])
  have HK2 := Lib.hid (hBk.alloc (.cells #[.slice (some ⟨g, 0, none⟩) N N, .int .i64 0, .int .i64 R, .int .i64 C, .int .i64 D] 24))
  have HB2 := Lib.hid (below_al (below_nx HB1.out hb) (o := (.cells #[.slice (some ⟨g, 0, none⟩) N N, .int .i64 0, .int .i64 R, .int .i64 C, .int .i64 D] 24)))
  have HMl := Lib.hid (show (f64s M).toArray.size = N by simp [f64s, hM])
  clear hb hBk hM c0 c1 c2 c3 c4
  obtain ⟨c0, c1, c2, c3, c4⟩ := cells5 HZ2.out
  obtain ⟨t0, t1, t2, t3, t4⟩ := cells5 HT2.out
  go_wp2_with fail
  generalize hW3 : w2.alloc (.cells #[.slice (some ⟨g, 0, none⟩) N N, .int .i64 0, .int .i64 R, .int .i64 C, .int .i64 D] 24) = W3 at *
  generalize w2.heap.size = t at *
  clear hW3
  refine wp_region_inv [23, 24, 25, 26, 27] (fun d s W => (d 0 = true → s 23 = .pointer (some ⟨t, 0, none⟩)) ∧ (d 1 = true → s 24 = .slice (some ⟨g, 0, none⟩) N N) ∧ (d 2 = true → s 25 = .agg #[.slice A n c, .int .i64 o, .int .i64 R, .int .i64 C, .int .i64 L]) ∧ (d 3 = true → ∃ B, (∃ dd, s 26 = .slice B N dd) ∧ (d 4 = false → Row W B (f64s X))) ∧ (d 4 = true → s 27 = .int .i64 (N : Int)) ∧ (d 4 = true → d 0 = true ∧ d 1 = true ∧ d 2 = true ∧ d 3 = true) ∧ (d 1 = true → d 0 = true) ∧ (d 3 = true → d 2 = true) ∧ CopyB W3 g X (d 4) W)
    rfl (by kernel_rfl) ?_ ?_ ?_
  · exact ⟨by simp, by simp, by simp, by simp, by simp, by simp, by simp, by simp, ⟨fun _ => (Below.refl _ _).drew, fun h => by cases h⟩⟩
  · refine ⟨?_, ?_, ?_, ?_, ?_, trivial⟩
    all_goals
      intro d s W hJ hfr hd hdep
      simp only [List.mem_cons, forall_eq_or_imp, List.not_mem_nil, false_implies, implies_true, and_true, Region.binds] at hdep
      have f4 := hfr 4 (by decide)
      have f1 := hfr 1 (by decide)
      simp at f4 f1 hdep
      obtain ⟨h0, h1, h2, h3, h4, x0, x1, x2, hT⟩ := hJ
      unfold OpSteps
    · simp [go_sem, evS, f4, f1]
      exact ⟨fun _ => by simp [sput], fun h => by simpa [sput] using h1 (by simpa [did] using h), fun h => by simpa [sput] using h2 (by simpa [did] using h), fun h => by
        obtain ⟨B, ⟨dd, q1⟩, q2⟩ := h3 (by simpa [did] using h)
        exact ⟨B, ⟨dd, by simpa [sput] using q1⟩, fun hh => q2 (by simpa [did] using hh)⟩, fun h => by simpa [sput] using h4 (by simpa [did] using h), fun h => by have := x0 (by simpa [did] using h); simp [did, this], fun _ => by simp [did], by simpa [sput, did] using x2, by simpa [did] using hT⟩
    · have fa0 := h0 (by simp [hdep])
      have hd4 : d 4 = false := by
        cases h : d 4
        · rfl
        · have h8 := (x0 h).2.1; rw [hd] at h8; cases h8
      have hTb := hT.1 hd4
      obtain ⟨p0, p1, p2, p3, p4⟩ := cells5 (HT2.out.nxt hTb)
      simp [go_sem, evS, f4, f1, fa0, p0]
      exact ⟨fun h => by simpa [sput] using h0 (by simpa [did] using h), fun _ => by simp [sput], fun h => by simpa [sput] using h2 (by simpa [did] using h), fun h => by
        obtain ⟨B, ⟨dd, q1⟩, q2⟩ := h3 (by simpa [did] using h)
        exact ⟨B, ⟨dd, by simpa [sput] using q1⟩, fun hh => q2 (by simpa [did] using hh)⟩, fun h => by simpa [sput] using h4 (by simpa [did] using h), fun h => by have := x0 (by simpa [did] using h); simp [did, this], fun _ => by simp [did, hdep], by simpa [sput, did] using x2, by simpa [did] using hT⟩
    · have hd4 : d 4 = false := by
        cases h : d 4
        · rfl
        · have h8 := (x0 h).2.2.1; rw [hd] at h8; cases h8
      have hTb := hT.1 hd4
      obtain ⟨p0, p1, p2, p3, p4⟩ := cells5 (HZ2.out.nxt hTb)
      simp [go_sem, evS, f4, f1, p0, p1, p2, p3, p4]
      exact ⟨fun h => by simpa [sput] using h0 (by simpa [did] using h), fun h => by simpa [sput] using h1 (by simpa [did] using h), fun _ => by simp [sput], fun h => by
        obtain ⟨B, ⟨dd, q1⟩, q2⟩ := h3 (by simpa [did] using h)
        exact ⟨B, ⟨dd, by simpa [sput] using q1⟩, fun hh => q2 (by simpa [did] using hh)⟩, fun h => by simpa [sput] using h4 (by simpa [did] using h), fun h => by have := x0 (by simpa [did] using h); simp [did, this], by simpa [sput, did] using x1, fun _ => by simp [did], by simpa [did] using hT⟩
    · have fa2 := h2 (by simp [hdep])
      have hd4 : d 4 = false := by
        cases h : d 4
        · rfl
        · have h8 := (x0 h).2.2.2; rw [hd] at h8; cases h8
      have hTb := hT.1 hd4
      simp [go_sem, evS, f4, f1, fa2]
      refine (HNm.out W (below_nx HB2.out hTb)).mono ?_
      rintro e W' ⟨B, dd, rfl, hRw, _, hb⟩
      refine ⟨_, rfl, ?_⟩
      exact ⟨fun h => by simpa [sput] using h0 (by simpa [did] using h), fun h => by simpa [sput] using h1 (by simpa [did] using h), fun h => by simpa [sput] using h2 (by simpa [did] using h), fun _ => ⟨B, ⟨dd, by simp [sput]⟩, fun _ => hRw⟩, fun h => by simpa [sput] using h4 (by simpa [did] using h), fun h => by have := x0 (by simpa [did] using h); simp [did, this], by simpa [sput, did] using x1, fun _ => by simp [did, hdep], ⟨fun _ => below_nx hTb hb, fun h => by simp [did, hd4] at h⟩⟩
    · have fa1 := h1 (by simp [hdep])
      have fa3 := h3 (by simp [hdep])
      have e0 : d 0 = true := x1 (by simp [hdep])
      have e1 : d 1 = true := by simp [hdep]
      have e3 : d 3 = true := by simp [hdep]
      have e2 : d 2 = true := x2 e3
      obtain ⟨B, ⟨dd, q1⟩, q2⟩ := fa3
      have hTb := hT.1 hd
      obtain ⟨W', hrun, hBk, hOn⟩ := run_copy_all W 3 g N N dd B _ X (HK2.out.nxt hTb) HMl.out HX.out (q2 hd)
      simp [go_sem, evS, f4, f1, fa1, q1, hrun]
      exact ⟨fun h => by simpa [sput] using h0 (by simpa [did] using h), fun h => by simpa [sput] using h1 (by simpa [did] using h), fun h => by simpa [sput] using h2 (by simpa [did] using h), fun _ => ⟨B, ⟨dd, by simpa [sput] using q1⟩, fun h => by simp [did] at h⟩, fun _ => by simp [sput], fun _ => ⟨by simp [did, e0], by simp [did, e1], by simp [did, e2], by simp [did, e3]⟩, by simpa [sput, did] using x1, by simpa [sput, did] using x2, ⟨fun h => by simp [did] at h, fun _ => ⟨hBk, (Only.of_below hTb).trans hOn⟩⟩⟩
  intro d s W hJ hd
  obtain ⟨h0, h1, h2, h3, h4, x0, x1, x2, hT⟩ := hJ
  have hEnd := hT.2 (hd 4 (by decide))
  have HF := Lib.hid hEnd.1
  have HO := Lib.hid hEnd.2
  clear h0 h1 h2 h3 h4 x0 x1 x2 hT hEnd hd
  simp [setAll]
  have HZ3 := Lib.hid (HO.out.blk (by omega) HZ2.out)
  have HE3 := Lib.hid (HO.out.blk (by omega) HE2.out)
  have HT3 := Lib.hid (HO.out.blk (by omega) HT2.out)
  have HB3 := Lib.hid (HO.out.below HB2.out HB2.out.size (by omega))
  clear c0 c1 c2 c3 c4 t0 t1 t2 t3 t4
  generalize W = W4 at *
  obtain ⟨t0, t1, t2, t3, t4⟩ := cells5 HT3.out
  obtain ⟨z0, z1, z2, z3, z4⟩ := cells5 HE3.out
  obtain ⟨y0, y1, y2, y3, y4⟩ := frozen5 HE3.out
  have HSt := Lib.hid (HE3.out.store5 (.slice (some ⟨g, 0, none⟩) N N) (.int .i64 0) (.int .i64 R) (.int .i64 C) (.int .i64 D))
  have hgq : g ≠ w.heap.size + 1 := by omega
  have hzq : w.heap.size ≤ w.heap.size + 1 := Nat.le_succ _
  have HKe := Lib.hid (show Blk (((((W4.setCell ⟨w.heap.size + 1, 0, none⟩ (.slice (some ⟨g, 0, none⟩) N N)).setCell ⟨w.heap.size + 1, 1, none⟩ (.int .i64 0)).setCell ⟨w.heap.size + 1, 2, none⟩ (.int .i64 R)).setCell ⟨w.heap.size + 1, 3, none⟩ (.int .i64 C)).setCell ⟨w.heap.size + 1, 4, none⟩ (.int .i64 D)) g 48 (f64s X).toArray from
    (((((HF.out.other (p := ⟨w.heap.size + 1, 0, none⟩) hgq (.slice (some ⟨g, 0, none⟩) N N)).other (p := ⟨w.heap.size + 1, 1, none⟩) hgq (.int .i64 0)).other (p := ⟨w.heap.size + 1, 2, none⟩) hgq (.int .i64 R)).other (p := ⟨w.heap.size + 1, 3, none⟩) hgq (.int .i64 C)).other (p := ⟨w.heap.size + 1, 4, none⟩) hgq (.int .i64 D)))
  have HBe := Lib.hid (show Below w.heap.size w (((((W4.setCell ⟨w.heap.size + 1, 0, none⟩ (.slice (some ⟨g, 0, none⟩) N N)).setCell ⟨w.heap.size + 1, 1, none⟩ (.int .i64 0)).setCell ⟨w.heap.size + 1, 2, none⟩ (.int .i64 R)).setCell ⟨w.heap.size + 1, 3, none⟩ (.int .i64 C)).setCell ⟨w.heap.size + 1, 4, none⟩ (.int .i64 D)) from
    (((((HB3.out.setCell (p := ⟨w.heap.size + 1, 0, none⟩) hzq (.slice (some ⟨g, 0, none⟩) N N)).setCell (p := ⟨w.heap.size + 1, 1, none⟩) hzq (.int .i64 0)).setCell (p := ⟨w.heap.size + 1, 2, none⟩) hzq (.int .i64 R)).setCell (p := ⟨w.heap.size + 1, 3, none⟩) hzq (.int .i64 C)).setCell (p := ⟨w.heap.size + 1, 4, none⟩) hzq (.int .i64 D)))
  go_wp2_with fail
  obtain ⟨j0, j1, j2, j3, j4⟩ := cells5 HSt.out
  exact bodyPost_ret (v := .tuple #[.agg #[.slice (some ⟨g, 0, none⟩) N N, .int .i64 0, .int .i64 R, .int .i64 C, .int .i64 D], .int .i64 0]) (by simp [results, Try.results20, go_sem, j0, j1, j2, j3, j4]) rfl ⟨g, rfl, HKe.out, by omega, HBe.out⟩
end Go.Proofs.Ytamndbeffbcppaa
/-
Into by the program: a matrix' numbers, written into another one. Conditions: the matrix that is written has a list of the call's own; its list and the other's have at most 2^20 numbers.
-/
set_option linter.unusedVariables false
set_option linter.unusedSimpArgs false
set_option linter.unnecessarySimpa false
namespace Go.Proofs.Ytamndbeffbcppaa
open Go.RowKit
attribute [local go_sem ↓] Go.wp_at_zero Go.wp_at_succ

theorem run_sameAddr_near {P : Program} {w : World} {b o g : Nat} {t : TypeId} {cs : Array Value} {v : Value} (hne : b ≠ g) (hc : w.cell? ⟨b, o, none⟩ = some v) (hf : w.frozen? ⟨b, o, none⟩ = false) (hB : Blk w g t cs) (hs : 0 < cs.size) :
    (sameAddr ⟨g, 0, none⟩ ⟨b, o, none⟩).run P w = .ok false w := by
  obtain ⟨ca, ta, fr, ha, m, hm⟩ : ∃ ca ta fr, w.heap[b]? = some (.cells ca ta fr) ∧ ∃ m, ca.size = m + 1 := by
    unfold World.cell? at hc
    simp only at hc
    split at hc
    · rename_i ca ta fr h
      refine ⟨ca, ta, fr, h, ca.size - 1, ?_⟩
      have h1 := (Array.getElem?_eq_some_iff.1 hc).1
      omega
    · cases hc
  have hg := hB
  unfold Blk at hg
  have hs0 : cs.size ≠ 0 := by omega
  obtain ⟨lo, hi⟩ := fr
  have hf' : (decide (lo ≤ o) && decide (o < hi)) = false := by
    simpa [World.frozen?, ha] using hf
  have hg2 : g ≠ b := fun e => hne e.symm
  cases h1 : decide (lo ≤ m + 1) && decide (m + 1 < hi)
  all_goals simp [sameAddr, hg2, World.frozen?, ha, hg, hf', noView, viewAt, World.shape?, mayBeOne, stringish, hs0, h1, hm]
theorem run_eql_near {W : World} {b o g : Nat} {t : TypeId} {cs : Array Value} {v : Value} (hne : b ≠ g) (hc : W.cell? ⟨b, o, none⟩ = some v) (hf : W.frozen? ⟨b, o, none⟩ = false) (hB : Blk W g t cs) (hs : 0 < cs.size) :
    (binOp .eql 85 (.pointer (some ⟨g, 0, none⟩)) (.pointer (some ⟨b, o, none⟩))).run Try.prog W = .ok (.bool false) W := by
  have hz : (Try.prog.info? 48).map (fun i => i.size) = some 1 := by kernel_rfl
  obtain ⟨j, hj, hsz⟩ := Option.map_eq_some_iff.1 hz
  have h0 := run_sameAddr_near (P := Try.prog) hne hc hf hB hs
  have h : ∀ d : Nat, (Op.equalIn (d + 1) 85 (.pointer (some ⟨g, 0, none⟩)) (.pointer (some ⟨b, o, none⟩))).run Try.prog W = .ok false W := fun d => by
    simp [Op.equalIn, run_underlying Try.underlying85, sizeOf, typeInfo, hj, hsz, h0]
  simp only [binOp]
  simp [Op.equal, Op.maxDepth, h 9999]
theorem both_pos2 {n n' : Nat} {off r k ld off' r' k' ld' : Int} (h : bothB n off r k ld n' off' r' k' ld' = true) : 0 < n ∧ 0 < n' := by
  unfold bothB at h
  simp only [Bool.and_eq_true, Bool.not_eq_true', Bool.or_eq_false_iff, beq_eq_false_iff_ne, ne_eq] at h
  have g1 := of_decide_eq_true h.1.1.1
  have g2 := of_decide_eq_true h.1.1.2
  have h0 : 0 ≤ (k - 1) * ld := Int.mul_nonneg (by omega) (by omega)
  have h1 : 0 ≤ (k' - 1) * ld' := Int.mul_nonneg (by omega) (by omega)
  omega
/-- A matrix in a list of the call's own never meets one of the caller's. -/
theorem meet_mine (g cN : Nat) (l : List Nat) (n : Nat) (off r k ld : Int) (A : Option Addr) (n' c' : Nat) (l' : List Nat) (off' r' k' ld' : Int) (w : World) (hO : Own w g l) (hl : l.length = n) (hA : Row w A (f64s l')) (hl' : l'.length = n') (hfz : ∀ b o, A = some ⟨b, o, none⟩ → l' ≠ [] → w.frozen? ⟨b, o, none⟩ = false) (hne : ∀ b o, A = some ⟨b, o, none⟩ → l' ≠ [] → b ≠ g)
    (hn : n < 9223372036854775808) (hn' : n' < 9223372036854775808) (ho : I64 off) (hr : I64 r) (hk : I64 k) (hi : I64 ld) (ho' : I64 off') (hr' : I64 r') (hk' : I64 k') (hi' : I64 ld') :
    Calls Try.prog 51 #[mat (some ⟨g, 0, none⟩) n cN off r k ld, mat A n' c' off' r' k' ld'] w fun e w' => e = .returned (.bool false) ∧ Below w.heap.size w w' := by
  cases hb : bothB n off r k ld n' off' r' k' ld'
  · exact meet_none _ _ cN off r k ld _ _ c' off' r' k' ld' w hn ho hr hk hi hn' ho' hr' hk' hi' hb
  · have h0 := both_pos2 hb
    have hl2 : l' ≠ [] := by rintro rfl; simp at hl'; omega
    obtain ⟨b, o, rfl, hbl, hcell⟩ := hA.at_ (f64s_get l' 0 (by omega))
    have hfr := hfz b o rfl hl2
    have hbg := hne b o rfl hl2
    refine meet_far g 0 _ cN off r k ld b o _ c' off' r' k' ld' w hn ho hr hk hi hn' ho' hr' hk' hi' hb h0.1 h0.2 fun W hW => ?_
    obtain ⟨cs, hB, ht⟩ := hO.nxt hW
    refine run_eql_near hbg (cell_below hcell hW) ((hW.frozen (p := ⟨b, o, none⟩) hbl).trans hfr) hB ?_
    have h1 : (cs.toList.take l.length).length = l.length := by rw [ht]; simp [f64s]
    rw [List.length_take] at h1
    simp at h1; omega

/-- Why nothing is written. -/
def intoI (n : Nat) (off r k ld : Int) (n' : Nat) (off' r' k' ld' : Int) : Int := if (matB n off r k ld && matB n' off' r' k' ld') = true then (if r = r' ∧ k = k' then 0 else 3) else 1
theorem into_err (A A' : Option Addr) (n c : Nat) (off r k ld : Int) (n' c' : Nat) (off' r' k' ld' : Int) (w : World) (hn : n < 9223372036854775808) (hn' : n' < 9223372036854775808) (ho : I64 off) (hr : I64 r) (hk : I64 k) (hi : I64 ld) (ho' : I64 off') (hr' : I64 r') (hk' : I64 k') (hi' : I64 ld') (P : Int) (hP : intoI n off r k ld n' off' r' k' ld' = P) (hP0 : P ≠ 0) :
    Calls Try.prog 21 #[mat A n c off r k ld, mat A' n' c' off' r' k' ld'] w fun e w' => e = .returned (.int .i64 P) ∧ Below w.heap.size w w' := by
  have HRi := Lib.hid (fun W => good_any A n c off r k ld W hn ho hr hk hi)
  have HRi' := Lib.hid (fun W => good_any A' n' c' off' r' k' ld' W hn' ho' hr' hk' hi')
  unfold intoI at hP
  clear hn hn' ho hr hk hi ho' hr' hk' hi'
  generalize matB n off r k ld = x at *
  generalize matB n' off' r' k' ld' = y at *
  unfold mat at *
  have Ha0 := Lib.hid ((Blk.new w 24 #[.slice A n c, .int .i64 off, .int .i64 r, .int .i64 k, .int .i64 ld]).alloc (.cells #[.slice A' n' c', .int .i64 off', .int .i64 r', .int .i64 k', .int .i64 ld'] 24))
  have Hb0 := Lib.hid (Blk.new_ (w.alloc (.cells #[.slice A n c, .int .i64 off, .int .i64 r, .int .i64 k, .int .i64 ld] 24)) 24 #[.slice A' n' c', .int .i64 off', .int .i64 r', .int .i64 k', .int .i64 ld'] (w.heap.size + 1) (by simp))
  have HB0 := Lib.hid (((Below.refl w.heap.size w).alloc (Nat.le_refl _) (.cells #[.slice A n c, .int .i64 off, .int .i64 r, .int .i64 k, .int .i64 ld] 24)).alloc (by simp) (.cells #[.slice A' n' c', .int .i64 off', .int .i64 r', .int .i64 k', .int .i64 ld'] 24))
  cases x
  · obtain rfl : P = 1 := by simpa using hP.symm
    clear hP hP0
    go_enter Try.func21, Try.ntmps21
    go_wp2_with fail
    refine (HRi.out _).mono ?_
    rintro e w1 ⟨rfl, hb⟩
    have HB1 := Lib.hid (below_nx HB0.out hb)
    clear hb
    go_wp2_with fail
    go_ret
    exact ⟨rfl, HB1.out⟩
  · cases y
    · obtain rfl : P = 1 := by simpa using hP.symm
      clear hP hP0
      go_enter Try.func21, Try.ntmps21
      go_wp2_with fail
      refine (HRi.out _).mono ?_
      rintro e w1 ⟨rfl, hb⟩
      have Hb1 := Lib.hid (Hb0.out.nxt hb)
      have HB1 := Lib.hid (below_nx HB0.out hb)
      clear hb
      obtain ⟨b0, b1, b2, b3, b4⟩ := cells5 Hb1.out
      go_wp2_with fail
      refine (HRi'.out _).mono ?_
      rintro e w2 ⟨rfl, hb⟩
      have HB2 := Lib.hid (below_nx HB1.out hb)
      clear hb b0 b1 b2 b3 b4
      go_wp2_with fail
      go_ret
      exact ⟨rfl, HB2.out⟩
    · have hkk : ¬ (r = r' ∧ k = k') := by
        intro e
        simp [e] at hP
        omega
      obtain rfl : P = 3 := by simp [hkk] at hP; omega
      have hd : (r != r') = true ∨ (r != r') = false ∧ (k != k') = true := by
        by_cases h : r = r'
        · right; simp [h]; exact fun e => hkk ⟨h, e⟩
        · left; simp [h]
      clear hP hP0 hkk
      rcases hd with hd | ⟨hd, hd2⟩
      all_goals
        go_enter Try.func21, Try.ntmps21
        go_wp2_with fail
        refine (HRi.out _).mono ?_
        rintro e w1 ⟨rfl, hb⟩
        have Ha1 := Lib.hid (Ha0.out.nxt hb)
        have Hb1 := Lib.hid (Hb0.out.nxt hb)
        have HB1 := Lib.hid (below_nx HB0.out hb)
        clear hb
        obtain ⟨b0, b1, b2, b3, b4⟩ := cells5 Hb1.out
        go_wp2_with fail
        refine (HRi'.out _).mono ?_
        rintro e w2 ⟨rfl, hb⟩
        have Ha2 := Lib.hid (Ha1.out.nxt hb)
        have Hb2 := Lib.hid (Hb1.out.nxt hb)
        have HB2 := Lib.hid (below_nx HB1.out hb)
        clear hb b0 b1 b2 b3 b4
        obtain ⟨a0, a1, a2, a3, a4⟩ := cells5 Ha2.out
        obtain ⟨b0, b1, b2, b3, b4⟩ := cells5 Hb2.out
        go_wp2_with fail
        go_ret
        exact ⟨rfl, HB2.out⟩
end Go.Proofs.Ytamndbeffbcppaa
/-
Into by the program, where it can be. Conditions: as each says.
-/
set_option linter.unusedVariables false
set_option linter.unusedSimpArgs false
set_option linter.unnecessarySimpa false
namespace Go.Proofs.Ytamndbeffbcppaa
open Go.RowKit
attribute [local go_sem ↓] Go.wp_at_zero Go.wp_at_succ

/-- Before and behind the writing of a number. -/
def SetB (W0 : World) (g : Nat) (l2 : List Nat) (d : Bool) (W : World) : Prop := (d = false → Below W0.heap.size W0 W) ∧ (d = true → Own W g l2 ∧ Chg [g] W0 W)
theorem SetB.box {W0 W : World} {g : Nat} {l2 : List Nat} {d : Bool} {b : Nat} {t : TypeId} {cs : Array Value} (h : SetB W0 g l2 d W) (hB : Blk W0 b t cs) (hne : b ≠ g) : Blk W b t cs := by
  cases d
  · exact hB.nxt (h.1 rfl)
  · exact (h.2 rfl).2.blk (by simp; exact hne) hB
/-- The first q numbers, column by column, are the table's. -/
def Cim (l : List Nat) (o R C L : Nat) (T : Nat → Nat → Nat) (q : Nat) (l' : List Nat) : Prop :=
  l'.length = l.length ∧ (∀ a, a < R → ∀ b, b < C → l'.getD (o + a + b * L) 0 = if b * R + a < q then T a b else l.getD (o + a + b * L) 0) ∧ ∀ x, (∀ a, a < R → ∀ b, b < C → x ≠ o + a + b * L) → l'.getD x 0 = l.getD x 0
theorem Cim.zero (l : List Nat) (o R C L : Nat) (T : Nat → Nat → Nat) : Cim l o R C L T 0 l := ⟨rfl, fun a _ b _ => by rw [if_neg (by omega)], fun _ _ => rfl⟩
theorem Cim.done {l l' : List Nat} {o R C L q : Nat} {T : Nat → Nat → Nat} (h : Cim l o R C L T q l') (hq : R * C = q) : Img l o R C L T l' :=
  ⟨h.1, fun a ha b hb => by
    rw [h.2.1 a ha b hb, if_pos]
    have : (b + 1) * R ≤ C * R := Nat.mul_le_mul_right _ (by omega)
    rw [Nat.add_mul, Nat.mul_comm C R, hq] at this; omega, h.2.2⟩
theorem Cim.step {l l' : List Nat} {o R C L q a b : Nat} {T : Nat → Nat → Nat} (h : Cim l o R C L T q l') (hR : R ≤ L) (ha : a < R) (hb : b < C) (hq : b * R + a = q) (hP : o + a + b * L < l.length) : Cim l o R C L T (q + 1) (l'.set (o + a + b * L) (T a b)) := by
  refine ⟨by rw [List.length_set]; exact h.1, fun i hi j hj => ?_, fun x hx => ?_⟩
  · by_cases e : i = a ∧ j = b
    · obtain ⟨rfl, rfl⟩ := e
      rw [getD_set_self (by rw [h.1]; exact hP), if_pos (by omega)]
    · rw [getD_set_ne _ (fun e2 => e (by
        have := spots_inj (L := L) (a := a) (b := b) (a' := i) (b' := j) (by omega) (by omega) (by omega)
        exact ⟨this.1.symm, this.2.symm⟩)), h.2.1 i hi j hj]
      have hne : j * R + i ≠ q := by
        intro e2
        have := spots_inj (L := R) (a := i) (b := j) (a' := a) (b' := b) hi ha (by omega)
        exact e this
      by_cases e1 : j * R + i < q
      · rw [if_pos e1, if_pos (by omega)]
      · rw [if_neg e1, if_neg (by omega)]
  · rw [getD_set_ne _ (fun e => hx a ha b hb e.symm), h.2.2 x hx]

theorem mio_facts {q R C N : Nat} (hN : R * C = N) (hq : q < N) (hNb : N < 1048576) : ∃ a1 b1 : Nat, a1 < R ∧ b1 < C ∧ b1 * R + a1 = q ∧ ((R : Int) == 0) = false ∧ (R == 0) = false ∧ ¬ R = 0 ∧ (q : Int) / (R : Int) = (b1 : Int) ∧ (q : Int).tmod (R : Int) = (a1 : Int) ∧ IntKind.i64.wrap (b1 : Int) = (b1 : Int) ∧ (q : Int) < (N : Int) ∧ q + 1 ≤ 1048576 := by
  have hR0 : 0 < R := Nat.pos_of_ne_zero (by rintro rfl; simp at hN; omega)
  have hb : q / R < C := Nat.div_lt_of_lt_mul (by rw [hN]; exact hq)
  have hle : q / R ≤ q := Nat.div_le_self _ _
  have he : q / R * R + q % R = q := by rw [Nat.mul_comm]; exact Nat.div_add_mod q R
  refine ⟨q % R, q / R, Nat.mod_lt _ hR0, hb, he, ?_, ?_, ?_, ?_, ?_, ?_, ?_, ?_⟩
  · simp; exact Nat.ne_of_gt hR0
  · simp; exact Nat.ne_of_gt hR0
  · exact Nat.ne_of_gt hR0
  · simp
  · rw [Int.tmod_eq_emod_of_nonneg (Int.natCast_nonneg q)]; simp
  · clear he hb hN
    generalize q / R = y at *
    exact wrapi (by omega) (by omega)
  · exact Int.ofNat_lt.2 hq
  · clear he hb hN hle; omega
set_option maxRecDepth 100000 in
set_option maxHeartbeats 600000 in
theorem into_ok (g c : Nat) (l : List Nat) (n o R C L N : Nat) (A : Option Addr) (n' c' : Nat) (l' : List Nat) (o' L' : Nat) (w : World) (hO : Own w g l) (hl : l.length = n) (hn : n < 1048576) (hA : Row w A (f64s l')) (hl' : l'.length = n') (hnc : n' ≤ c') (hn' : n' < 1048576)
    (hfz : ∀ b x, A = some ⟨b, x, none⟩ → l' ≠ [] → w.frozen? ⟨b, x, none⟩ = false) (hne : ∀ b x, A = some ⟨b, x, none⟩ → l' ≠ [] → b ≠ g)
    (hb : o < 9223372036854775808 ∧ R < 9223372036854775808 ∧ C < 9223372036854775808 ∧ L < 9223372036854775808 ∧ o' < 9223372036854775808 ∧ L' < 9223372036854775808) (hN : R * C = N) (hL : 1 ≤ L) (hR : R ≤ L) (hr : R = 0 ∨ C = 0 ∨ o + (C - 1) * L + (R - 1) < n) (hL' : 1 ≤ L') (hR' : R ≤ L') (hr' : R = 0 ∨ C = 0 ∨ o' + (C - 1) * L' + (R - 1) < n') :
    Calls Try.prog 21 #[mat (some ⟨g, 0, none⟩) n c o R C L, mat A n' c' o' R C L'] w fun e w' => e = .returned (.int .i64 0) ∧ ∃ l2, Own w' g l2 ∧ Img l o R C L (fun a b => l'.getD (o' + a + b * L') 0) l2 ∧ Chg [g] w w' := by
  have HG := Lib.hid (fun W => good_any (some ⟨g, 0, none⟩) n c o R C L W (by omega) (by unfold I64; omega) (by unfold I64; omega) (by unfold I64; omega) (by unfold I64; omega))
  rw [mat_right hL hR hr] at HG
  have HG' := Lib.hid (fun W => good_any A n' c' o' R C L' W (by omega) (by unfold I64; omega) (by unfold I64; omega) (by unfold I64; omega) (by unfold I64; omega))
  rw [mat_right hL' hR' hr'] at HG'
  have HMe := Lib.hid (fun W (hb' : Below w.heap.size w W) => meet_mine g c l n o R C L A n' c' l' o' R C L' W (hO.nxt hb') hl (hA.below hb') hl' (fun b x e h => by
    subst e
    rcases hA with h0 | ⟨b2, x2, e2, hc⟩
    · exact absurd (by simpa [f64s] using h0) h
    · injection e2 with e2; injection e2 with e3 e4
      subst e3; subst e4
      have h1 := hc 0 _ (f64s_get l' 0 (List.length_pos_iff.2 h))
      exact (hb'.frozen (p := ⟨b, x, none⟩) (block_lt h1)).trans (hfz b x rfl h)) hne (by omega) (by omega) (by unfold I64; omega) (by unfold I64; omega) (by unfold I64; omega) (by unfold I64; omega) (by unfold I64; omega) (by unfold I64; omega) (by unfold I64; omega) (by unfold I64; omega))
  have HNm := Lib.hid (fun W (hb' : Below w.heap.size w W) => numbers_any A n' c' l' o' R C L' N W (hA.below hb') hl' hnc hn' (by omega) hN hL' hR' hr')
  have HSt := Lib.hid (fun W (l1 : List Nat) (v a b : Nat) (hl1 : l1.length = n) (h : Own W g l1) (ha : a < R) (hbC : b < C) => show Calls Try.prog 52 #[mat (some ⟨g, 0, none⟩) n c o R C L, .int .i64 a, .int .i64 b, .float .f64 v] W fun e w' => e = .returned (.bool true) ∧ Own w' g (l1.set (o + a + b * L) v) ∧ Only g W w' from by
    have h1 : thereB l1.length o R C L a b = true := by
      unfold thereB
      rw [hl1, mat_right hL hR hr]
      simp; omega
    have := set_there g c l1 o R C L a b v (o + a + b * L) W h (by omega) (by unfold I64; omega) (by unfold I64; omega) (by unfold I64; omega) (by unfold I64; omega) h1 (by simp)
    rw [hl1] at this; exact this)
  have HIn := Lib.hid (fun a b (ha : a < R) (hbC : b < C) => show o + a + b * L < l.length from by
    have h1 : b * L ≤ (C - 1) * L := Nat.mul_le_mul_right _ (by omega)
    omega)
  have HRL := Lib.hid hR
  have HN := Lib.hid hN
  have HOg := Lib.hid hO
  have Hl := Lib.hid hl
  have hNn : N < 1048576 := by
    have h9 := mat_size hR hr
    rw [hN] at h9
    exact Nat.lt_of_le_of_lt h9 hn
  have hgl := hO.lt
  have HX := Lib.hid (show (colsL l' o' R L' C).length = N by rw [colsL_length, Nat.mul_comm, hN])
  have HXg := Lib.hid (fun a b (ha : a < R) (hbC : b < C) => colsL_getD l' o' R L' ha (j := C) hbC)
  generalize colsL l' o' R L' C = X at *
  clear hO hl hn hA hl' hnc hn' hfz hne hb hN hL hR hr hL' hR' hr'
  unfold mat at *
  go_enter Try.func21, Try.ntmps21
  have Ha0 := Lib.hid ((Blk.new w 24 #[.slice (some ⟨g, 0, none⟩) n c, .int .i64 o, .int .i64 R, .int .i64 C, .int .i64 L]).alloc (.cells #[.slice A n' c', .int .i64 o', .int .i64 R, .int .i64 C, .int .i64 L'] 24))
  have Hb0 := Lib.hid (Blk.new_ (w.alloc (.cells #[.slice (some ⟨g, 0, none⟩) n c, .int .i64 o, .int .i64 R, .int .i64 C, .int .i64 L] 24)) 24 #[.slice A n' c', .int .i64 o', .int .i64 R, .int .i64 C, .int .i64 L'] (w.heap.size + 1) (by simp))
  have HB0 := Lib.hid (((Below.refl w.heap.size w).alloc (Nat.le_refl _) (.cells #[.slice (some ⟨g, 0, none⟩) n c, .int .i64 o, .int .i64 R, .int .i64 C, .int .i64 L] 24)).alloc (by simp) (.cells #[.slice A n' c', .int .i64 o', .int .i64 R, .int .i64 C, .int .i64 L'] 24))
  go_wp2_with fail
  refine (HG.out _).mono ?_
  rintro e w1 ⟨rfl, hb⟩
  have Ha1 := Lib.hid (Ha0.out.nxt hb)
  have Hb1 := Lib.hid (Hb0.out.nxt hb)
  have HB1 := Lib.hid (below_nx HB0.out hb)
  clear hb
  obtain ⟨a0, a1, a2, a3, a4⟩ := cells5 Ha1.out
  obtain ⟨b0, b1, b2, b3, b4⟩ := cells5 Hb1.out
  go_wp2_with fail
  refine (HG'.out _).mono ?_
  rintro e w2 ⟨rfl, hb⟩
  have Ha2 := Lib.hid (Ha1.out.nxt hb)
  have Hb2 := Lib.hid (Hb1.out.nxt hb)
  have HB2 := Lib.hid (below_nx HB1.out hb)
  clear hb a0 a1 a2 a3 a4 b0 b1 b2 b3 b4
  obtain ⟨a0, a1, a2, a3, a4⟩ := cells5 Ha2.out
  obtain ⟨b0, b1, b2, b3, b4⟩ := cells5 Hb2.out
  go_wp2_with fail
  refine (HMe.out _ HB2.out).mono ?_
  rintro e w3 ⟨rfl, hb⟩
  have Ha3 := Lib.hid (Ha2.out.nxt hb)
  have Hb3 := Lib.hid (Hb2.out.nxt hb)
  have HB3 := Lib.hid (below_nx HB2.out hb)
  clear hb a0 a1 a2 a3 a4 b0 b1 b2 b3 b4
  obtain ⟨a0, a1, a2, a3, a4⟩ := cells5 Ha3.out
  obtain ⟨b0, b1, b2, b3, b4⟩ := cells5 Hb3.out
  go_wp2_with fail
  refine (HNm.out _ HB3.out).mono ?_
  rintro e w4 ⟨B, dd, rfl, hrow, hbb, hb⟩
  have Ha4 := Lib.hid (Ha3.out.nxt hb)
  have Hb4 := Lib.hid (Hb3.out.nxt hb)
  have HB4 := Lib.hid (below_nx HB3.out hb)
  have HRow := Lib.hid hrow
  have HBb := Lib.hid (show ∀ b x, B = some ⟨b, x, none⟩ → b ∉ [g] from fun b x e => by have := hbb b x e; have := HB3.out.size; simp; omega)
  clear hrow hbb
  clear hb a0 a1 a2 a3 a4 b0 b1 b2 b3 b4
  obtain ⟨a0, a1, a2, a3, a4⟩ := cells5 Ha4.out
  obtain ⟨b0, b1, b2, b3, b4⟩ := cells5 Hb4.out
  go_wp2_with fail
  have hzg : w.heap.size ≠ g := by omega
  have hzg1 : w.heap.size + 1 ≠ g := by omega
  have HOw := Lib.hid (HOg.out.nxt HB4.out)
  clear a0 a1 a2 a3 a4 b0 b1 b2 b3 b4
  go_loopw [36] (fun i wr => ∃ (q : Nat) (l1 : List Nat), q ≤ N ∧ i = .int .i64 (q : Int) ∧ Cim l o R C L (fun a b => l'.getD (o' + a + b * L') 0) q l1 ∧ Own wr g l1 ∧ Chg [g] w wr ∧ Row wr B (f64s X) ∧ Blk wr w.heap.size 24 #[.slice (some ⟨g, 0, none⟩) n c, .int .i64 o, .int .i64 R, .int .i64 C, .int .i64 L]) (fun i _ => N - (intOf i).toNat)
  case atStart => exact ⟨0, l, Nat.zero_le _, rfl, Cim.zero _ _ _ _ _ _, HOw.out, .of_below HB4.out, HRow.out, Ha4.out⟩
  case round =>
    obtain ⟨q, l1, hq, rfl, hci, ho1, hc1, hr1, ha1⟩ := hrel
    have HCi := Lib.hid hci
    have HO1 := Lib.hid ho1
    have HC1 := Lib.hid hc1
    have HR1 := Lib.hid hr1
    have Ha := Lib.hid ha1
    clear hci ho1 hc1 hr1 ha1
    by_cases hlt : q < N
    · obtain ⟨a1, b1, haR, hbC, hqe, e6, e6n, e6m, e7, e7', w1', hqc, hq1⟩ := mio_facts HN.out hlt hNn
      have HQe := Lib.hid hqe
      have hqX : q < X.length := by rw [HX.out]; exact hlt
      obtain ⟨b, x, rfl, _, hcell⟩ := HR1.out.at_ (f64s_get X q hqX)
      have hXv := HXg.out a1 b1 haR hbC
      rw [hqe, getD_of_lt hqX] at hXv
      have hstep := HCi.out.step (HRL.out) haR hbC hqe (HIn.out a1 b1 haR hbC)
      rw [← hXv] at hstep
      obtain ⟨v, hv⟩ : ∃ v, X[q] = v := ⟨_, rfl⟩
      rw [hv] at hcell hstep
      obtain ⟨P, hP⟩ : ∃ P, o + a1 + b1 * L = P := ⟨_, rfl⟩
      have HSe := Lib.hid (fun W (h : Own W g l1) => HSt.out W l1 v a1 b1 (by rw [HCi.out.1, Hl.out]) h haR hbC)
      rw [hP] at hstep HSe
      have HStep := Lib.hid hstep
      clear hXv hstep hv hP hqX hqe haR hbC
      go_wp2_with fail
      refine wp_region_inv [41, 42, 43, 44, 45, 46, 47, 48, 49, 50, 51] (fun d s W => (d 0 = true → s 41 = .agg #[.slice (some ⟨g, 0, none⟩) n c, .int .i64 o, .int .i64 R, .int .i64 C, .int .i64 L]) ∧ (d 1 = true → s 42 = .int .i64 (q : Int)) ∧ (d 2 = true → s 43 = .pointer (some ⟨w.heap.size, 2, none⟩)) ∧ (d 3 = true → s 44 = .int .i64 (R : Int)) ∧ (d 4 = true → s 45 = .int .i64 (a1 : Int)) ∧ (d 5 = true → s 46 = .int .i64 (q : Int)) ∧ (d 6 = true → s 47 = .pointer (some ⟨w.heap.size, 2, none⟩)) ∧ (d 7 = true → s 48 = .int .i64 (R : Int)) ∧ (d 8 = true → s 49 = .int .i64 (b1 : Int)) ∧ (d 9 = true → s 50 = .float .f64 v) ∧ SetB wr g (l1.set P v) (d 10) W)
        rfl (by kernel_rfl) ?_ ?_ ?_
      · exact ⟨by simp, by simp, by simp, by simp, by simp, by simp, by simp, by simp, by simp, by simp, ⟨fun _ => (Below.refl _ _).drew, fun h => by cases h⟩⟩
      · refine ⟨?_, ?_, ?_, ?_, ?_, ?_, ?_, ?_, ?_, ?_, ?_, trivial⟩
        all_goals
          intro d s W hJ hfr hd hdep
          simp only [List.mem_cons, forall_eq_or_imp, List.not_mem_nil, false_implies, implies_true, and_true, Region.binds] at hdep
          have f2 := hfr 2 (by decide)
          have f5 := hfr 5 (by decide)
          have f6 := hfr 6 (by decide)
          simp at f2 f5 f6 hdep
          obtain ⟨h0, h1, h2, h3, h4, h5, h6, h7, h8, h9, hT⟩ := hJ
          unfold OpSteps
        · obtain ⟨p0, p1, p2, p3, p4⟩ := cells5 (hT.box Ha.out hzg)
          simp [go_sem, evS, f2, f5, f6, p0, p1, p2, p3, p4]
          exact ⟨fun _ => by simp [sput], fun h => by simpa [sput] using h1 (by simpa [did] using h), fun h => by simpa [sput] using h2 (by simpa [did] using h), fun h => by simpa [sput] using h3 (by simpa [did] using h), fun h => by simpa [sput] using h4 (by simpa [did] using h), fun h => by simpa [sput] using h5 (by simpa [did] using h), fun h => by simpa [sput] using h6 (by simpa [did] using h), fun h => by simpa [sput] using h7 (by simpa [did] using h), fun h => by simpa [sput] using h8 (by simpa [did] using h), fun h => by simpa [sput] using h9 (by simpa [did] using h), by simpa [did] using hT⟩
        · simp [go_sem, evS, f2, f5, f6]
          exact ⟨fun h => by simpa [sput] using h0 (by simpa [did] using h), fun _ => by simp [sput], fun h => by simpa [sput] using h2 (by simpa [did] using h), fun h => by simpa [sput] using h3 (by simpa [did] using h), fun h => by simpa [sput] using h4 (by simpa [did] using h), fun h => by simpa [sput] using h5 (by simpa [did] using h), fun h => by simpa [sput] using h6 (by simpa [did] using h), fun h => by simpa [sput] using h7 (by simpa [did] using h), fun h => by simpa [sput] using h8 (by simpa [did] using h), fun h => by simpa [sput] using h9 (by simpa [did] using h), by simpa [did] using hT⟩
        · simp [go_sem, evS, f2, f5, f6]
          exact ⟨fun h => by simpa [sput] using h0 (by simpa [did] using h), fun h => by simpa [sput] using h1 (by simpa [did] using h), fun _ => by simp [sput], fun h => by simpa [sput] using h3 (by simpa [did] using h), fun h => by simpa [sput] using h4 (by simpa [did] using h), fun h => by simpa [sput] using h5 (by simpa [did] using h), fun h => by simpa [sput] using h6 (by simpa [did] using h), fun h => by simpa [sput] using h7 (by simpa [did] using h), fun h => by simpa [sput] using h8 (by simpa [did] using h), fun h => by simpa [sput] using h9 (by simpa [did] using h), by simpa [did] using hT⟩
        · have fa2 := h2 (by simp [hdep])
          obtain ⟨p0, p1, p2, p3, p4⟩ := cells5 (hT.box Ha.out hzg)
          simp [go_sem, evS, f2, f5, f6, fa2, p2]
          exact ⟨fun h => by simpa [sput] using h0 (by simpa [did] using h), fun h => by simpa [sput] using h1 (by simpa [did] using h), fun h => by simpa [sput] using h2 (by simpa [did] using h), fun _ => by simp [sput], fun h => by simpa [sput] using h4 (by simpa [did] using h), fun h => by simpa [sput] using h5 (by simpa [did] using h), fun h => by simpa [sput] using h6 (by simpa [did] using h), fun h => by simpa [sput] using h7 (by simpa [did] using h), fun h => by simpa [sput] using h8 (by simpa [did] using h), fun h => by simpa [sput] using h9 (by simpa [did] using h), by simpa [did] using hT⟩
        · have fa1 := h1 (by simp [hdep])
          have fa3 := h3 (by simp [hdep])
          simp [go_sem, evS, f2, f5, f6, fa1, fa3, e6, e7', e6n, e6m]
          exact ⟨fun h => by simpa [sput] using h0 (by simpa [did] using h), fun h => by simpa [sput] using h1 (by simpa [did] using h), fun h => by simpa [sput] using h2 (by simpa [did] using h), fun h => by simpa [sput] using h3 (by simpa [did] using h), fun _ => by simp [sput], fun h => by simpa [sput] using h5 (by simpa [did] using h), fun h => by simpa [sput] using h6 (by simpa [did] using h), fun h => by simpa [sput] using h7 (by simpa [did] using h), fun h => by simpa [sput] using h8 (by simpa [did] using h), fun h => by simpa [sput] using h9 (by simpa [did] using h), by simpa [did] using hT⟩
        · simp [go_sem, evS, f2, f5, f6]
          exact ⟨fun h => by simpa [sput] using h0 (by simpa [did] using h), fun h => by simpa [sput] using h1 (by simpa [did] using h), fun h => by simpa [sput] using h2 (by simpa [did] using h), fun h => by simpa [sput] using h3 (by simpa [did] using h), fun h => by simpa [sput] using h4 (by simpa [did] using h), fun _ => by simp [sput], fun h => by simpa [sput] using h6 (by simpa [did] using h), fun h => by simpa [sput] using h7 (by simpa [did] using h), fun h => by simpa [sput] using h8 (by simpa [did] using h), fun h => by simpa [sput] using h9 (by simpa [did] using h), by simpa [did] using hT⟩
        · simp [go_sem, evS, f2, f5, f6]
          exact ⟨fun h => by simpa [sput] using h0 (by simpa [did] using h), fun h => by simpa [sput] using h1 (by simpa [did] using h), fun h => by simpa [sput] using h2 (by simpa [did] using h), fun h => by simpa [sput] using h3 (by simpa [did] using h), fun h => by simpa [sput] using h4 (by simpa [did] using h), fun h => by simpa [sput] using h5 (by simpa [did] using h), fun _ => by simp [sput], fun h => by simpa [sput] using h7 (by simpa [did] using h), fun h => by simpa [sput] using h8 (by simpa [did] using h), fun h => by simpa [sput] using h9 (by simpa [did] using h), by simpa [did] using hT⟩
        · have fa6 := h6 (by simp [hdep])
          obtain ⟨p0, p1, p2, p3, p4⟩ := cells5 (hT.box Ha.out hzg)
          simp [go_sem, evS, f2, f5, f6, fa6, p2]
          exact ⟨fun h => by simpa [sput] using h0 (by simpa [did] using h), fun h => by simpa [sput] using h1 (by simpa [did] using h), fun h => by simpa [sput] using h2 (by simpa [did] using h), fun h => by simpa [sput] using h3 (by simpa [did] using h), fun h => by simpa [sput] using h4 (by simpa [did] using h), fun h => by simpa [sput] using h5 (by simpa [did] using h), fun h => by simpa [sput] using h6 (by simpa [did] using h), fun _ => by simp [sput], fun h => by simpa [sput] using h8 (by simpa [did] using h), fun h => by simpa [sput] using h9 (by simpa [did] using h), by simpa [did] using hT⟩
        · have fa5 := h5 (by simp [hdep])
          have fa7 := h7 (by simp [hdep])
          simp [go_sem, evS, f2, f5, f6, fa5, fa7, e6, e7, e6n, e6m, w1']
          exact ⟨fun h => by simpa [sput] using h0 (by simpa [did] using h), fun h => by simpa [sput] using h1 (by simpa [did] using h), fun h => by simpa [sput] using h2 (by simpa [did] using h), fun h => by simpa [sput] using h3 (by simpa [did] using h), fun h => by simpa [sput] using h4 (by simpa [did] using h), fun h => by simpa [sput] using h5 (by simpa [did] using h), fun h => by simpa [sput] using h6 (by simpa [did] using h), fun h => by simpa [sput] using h7 (by simpa [did] using h), fun _ => by simp [sput], fun h => by simpa [sput] using h9 (by simpa [did] using h), by simpa [did] using hT⟩
        · simp [go_sem, evS, f2, f5, f6]
          exact ⟨fun h => by simpa [sput] using h0 (by simpa [did] using h), fun h => by simpa [sput] using h1 (by simpa [did] using h), fun h => by simpa [sput] using h2 (by simpa [did] using h), fun h => by simpa [sput] using h3 (by simpa [did] using h), fun h => by simpa [sput] using h4 (by simpa [did] using h), fun h => by simpa [sput] using h5 (by simpa [did] using h), fun h => by simpa [sput] using h6 (by simpa [did] using h), fun h => by simpa [sput] using h7 (by simpa [did] using h), fun h => by simpa [sput] using h8 (by simpa [did] using h), fun _ => by simp [sput], by simpa [did] using hT⟩
        · have fa0 := h0 (by simp [hdep])
          have fa4 := h4 (by simp [hdep])
          have fa8 := h8 (by simp [hdep])
          have fa9 := h9 (by simp [hdep])
          have hTb := hT.1 hd
          simp [go_sem, evS, f2, f5, f6, fa0, fa4, fa8, fa9]
          refine (HSe.out W (HO1.out.nxt hTb)).mono ?_
          rintro e W' ⟨rfl, ho2, hO2⟩
          refine ⟨_, rfl, ?_⟩
          exact ⟨fun h => by simpa [sput] using h0 (by simpa [did] using h), fun h => by simpa [sput] using h1 (by simpa [did] using h), fun h => by simpa [sput] using h2 (by simpa [did] using h), fun h => by simpa [sput] using h3 (by simpa [did] using h), fun h => by simpa [sput] using h4 (by simpa [did] using h), fun h => by simpa [sput] using h5 (by simpa [did] using h), fun h => by simpa [sput] using h6 (by simpa [did] using h), fun h => by simpa [sput] using h7 (by simpa [did] using h), fun h => by simpa [sput] using h8 (by simpa [did] using h), fun h => by simpa [sput] using h9 (by simpa [did] using h), ⟨fun h => by simp [did] at h, fun _ => ⟨ho2, (Chg.of_below hTb).trans (.of_only hO2 (by simp))⟩⟩⟩
      intro d s W hJ hd
      obtain ⟨h0, h1, h2, h3, h4, h5, h6, h7, h8, h9, hT⟩ := hJ
      have hEnd := hT.2 (hd 10 (by decide))
      have HO2 := Lib.hid hEnd.1
      have HC2 := Lib.hid hEnd.2
      clear h0 h1 h2 h3 h4 h5 h6 h7 h8 h9 hT hEnd hd
      simp [setAll]
      have HC3 := Lib.hid (HC1.out.trans HC2.out)
      have HR3 := Lib.hid (HC2.out.row (fun b' x' e => HBb.out b' x' e) HR1.out)
      have Ha3 := Lib.hid (HC2.out.blk (by simp; exact hzg) Ha.out)
      clear hcell
      go_wp2_with fail
      go_roundw
      case rel => exact ⟨q + 1, l1.set P v, by omega, by go_num, HStep.out, HO2.out, HC3.out, HR3.out, Ha3.out⟩
      case measure => simp [intOf]; omega
    · obtain rfl : q = N := by omega
      have hqc : ¬ (q : Int) < (q : Int) := by omega
      go_wp2_with fail
      go_ret
      exact ⟨rfl, l1, HO1.out, HCi.out.done HN.out, HC1.out⟩
end Go.Proofs.Ytamndbeffbcppaa
/-
Finite: are all numbers of a list finite, by the program and by the document. Conditions: the list has at most 2^20 numbers.
-/
set_option linter.unusedVariables false
set_option linter.unusedSimpArgs false
namespace Go.Proofs.Ytamndbeffbcppaa
open Go.RowKit
attribute [local go_sem ↓] Go.wp_at_zero Go.wp_at_succ

theorem row_holds {w : World} {b o : Nat} {l : List Nat} (h : Row w (some ⟨b, o, none⟩) (f64s l)) : Holds w b o l := by
  intro i z hz
  rcases h with h0 | ⟨b', o', e, hc⟩
  · have : l = [] := by simpa [f64s] using h0
    subst this; simp at hz
  · injection e with e; injection e with e1 e2
    subst e1; subst e2
    exact hc i _ (by simp [f64s, hz])
theorem nfin_any (A : Option Addr) (n c : Nat) (l : List Nat) (w : World) (hA : Row w A (f64s l)) (hW : Wds l) (hl : l.length = n) (hn : n < 1048576) :
    Calls Try.prog 48 #[.slice A n c] w fun e w' => e = .returned (.bool (l.all Fl.fin)) ∧ w = w' := by
  cases A with
  | some a =>
    rcases hA with h0 | ⟨b, o, e, hc⟩
    · obtain rfl : l = [] := by simpa [f64s] using h0
      obtain rfl : n = 0 := hl.symm
      go_enter Try.func48, Try.ntmps48
      go_wp2
      go_loop [7] (fun i => ∃ k : Nat, k = 0 ∧ i = .int .i64 k) (fun i => 0)
      case atStart => exact ⟨0, rfl, rfl⟩
      case round =>
        obtain ⟨k, rfl, rfl⟩ := hrel
        go_wp2
        go_ret
        exact ⟨rfl, rfl⟩
    · obtain rfl : a = ⟨b, o, none⟩ := by simpa using e
      have := finite_any b o c l w (by omega) hW (row_holds (.inr ⟨b, o, rfl, hc⟩))
      rw [hl] at this
      exact this
  | none =>
    rcases hA with h | ⟨b, o, h, _⟩
    · obtain rfl : l = [] := by simpa [f64s] using h
      obtain rfl : n = 0 := hl.symm
      exact finite_nil c w
    · cases h
theorem kind_fin2 (z : Nat) : (kindOf z != 0) = !Fl.fin z := by
  unfold kindOf Fl.fin
  rw [Bool.eq_iff_iff]
  simp only [bne_iff_ne, ne_eq, Bool.not_eq_true', decide_eq_false_iff_not]
  split
  · simp [*]
  · split <;> simp [*]
set_option maxHeartbeats 1000000 in
theorem rfin_any (A : Option Addr) (n c : Nat) (l : List Nat) (w : World) (hA : Row w A (f64s l)) (hW : Wds l) (hl : l.length = n) (hn : n < 1048576) :
    Calls Try.prog 50 #[.slice A n c] w fun e w' => e = .returned (.bool (l.all Fl.fin)) ∧ w = w' := by
  have HA := Lib.hid hA
  have HW := Lib.hid hW
  have Hl := Lib.hid hl
  clear hA hW hl
  go_enter Try.func50, Try.ntmps50
  go_wp2_with fail
  go_loop [3] (fun i => ∃ k : Nat, k ≤ n ∧ i = .int .i64 k ∧ (l.take k).all Fl.fin = true) (fun i => n - (intOf i).toNat)
  case atStart => exact ⟨0, Nat.zero_le _, rfl, by simp⟩
  case round =>
    obtain ⟨k, hk, rfl, ha⟩ := hrel
    have HAl := Lib.hid ha
    clear ha
    by_cases hlt : k < n
    · have hkl : k < l.length := by rw [Hl.out]; exact hlt
      obtain ⟨b, o, rfl, hc⟩ := HA.out.get0 hkl
      have hw := HW.out.at_ k hkl
      have hstep := all_take l k hkl
      rw [HAl.out] at hstep
      rw [getD_of_lt hkl] at hc
      have hkd := kind_fin2 l[k]
      obtain ⟨z, hz⟩ : ∃ z, l[k] = z := ⟨_, rfl⟩
      rw [hz] at hc hw hstep hkd
      have HS := Lib.hid hstep
      have HX := Lib.hid hw
      have hqc : (k : Int) < (n : Int) := by omega
      have hk1 : k + 1 ≤ 1048576 := by omega
      clear hstep hw hz hkl
      cases hf : Fl.fin z
      · rw [hf] at hkd
        have HF := Lib.hid hf
        clear hf
        go_wp2_with fail
        refine (parts_any z _ HX.out).mono ?_
        rintro e w' ⟨rfl, rfl⟩
        go_wp2_with fail
        go_ret
        refine ⟨ret_bool ?_, rfl⟩
        have h1 := HS.out
        rw [HF.out] at h1
        exact (all_of_take h1).symm
      · rw [hf] at hkd
        have HF := Lib.hid hf
        clear hf
        go_wp2_with fail
        refine (parts_any z _ HX.out).mono ?_
        rintro e w' ⟨rfl, rfl⟩
        go_wp2_with fail
        go_round
        case rel => exact ⟨k + 1, by omega, by go_num, by rw [HS.out, HF.out]; rfl⟩
        case measure => simp [intOf]; omega
    · obtain rfl : k = n := by omega
      have hqc : ¬ (k : Int) < (k : Int) := by omega
      go_wp2_with fail
      go_ret
      exact ⟨ret_bool (by rw [← HAl.out, List.take_of_length_le (by have := Hl.out; omega)]), rfl⟩
end Go.Proofs.Ytamndbeffbcppaa
/-
Finite of a matrix, by the program and by the document; Clone of one that isn't right. Conditions: the matrix' list has at most 2^20 numbers.
-/
set_option linter.unusedVariables false
set_option linter.unusedSimpArgs false
set_option linter.unnecessarySimpa false
namespace Go.Proofs.Ytamndbeffbcppaa
open Go.RowKit
attribute [local go_sem ↓] Go.wp_at_zero Go.wp_at_succ

@[go_sem] theorem run_field_A (r k : Int) (g n c : Nat) (w : World) : (Instr.field 34 (.agg #[.int .i64 r, .int .i64 k, .slice (some ⟨g, 0, none⟩) n c]) 2).run Try.prog w = .ok (.slice (some ⟨g, 0, none⟩) n c) w := by kernel_rfl

/-- Are all the matrix' numbers finite? -/
def finsB (l : List Nat) (o R C L : Nat) : Bool := (List.range R).all fun a => (List.range C).all fun b => Fl.fin (l.getD (o + a + b * L) 0)
theorem finsB_iff (l : List Nat) (o R C L : Nat) : finsB l o R C L = true ↔ ∀ a, a < R → ∀ b, b < C → Fl.fin (l.getD (o + a + b * L) 0) = true := by
  unfold finsB
  simp [List.all_eq_true]
theorem fins_cols {l : List Nat} {o R C L : Nat} : (colsL l o R L C).all Fl.fin = finsB l o R C L := by
  rw [Bool.eq_iff_iff, finsB_iff, List.all_eq_true]
  constructor
  · intro h a ha b hb
    have hk : b * R + a < (colsL l o R L C).length := by
      rw [colsL_length]
      have : (b + 1) * R ≤ C * R := Nat.mul_le_mul_right _ hb
      rw [Nat.add_mul] at this; omega
    rw [← colsL_getD l o R L ha hb, getD_of_lt hk]
    exact h _ (List.getElem_mem hk)
  · intro h x hx
    obtain ⟨k, hk, rfl⟩ := List.mem_iff_getElem.1 hx
    have hk2 := hk
    rw [colsL_length] at hk2
    have hR : 0 < R := Nat.pos_of_ne_zero (by rintro rfl; simp at hk2)
    have hb : k / R < C := Nat.div_lt_of_lt_mul (by rw [Nat.mul_comm]; exact hk2)
    have he : k / R * R + k % R = k := by rw [Nat.mul_comm]; exact Nat.div_add_mod k R
    have h1 := colsL_getD l o R L (Nat.mod_lt k hR) hb
    rw [he, getD_of_lt hk] at h1
    rw [h1]
    exact h _ (Nat.mod_lt k hR) _ hb
theorem fins_tab {l T : List Nat} {o R C L N : Nat} (h : Tab l o R C L N T) (hN : R * C = N) : T.all Fl.fin = finsB l o R C L := by
  rw [Bool.eq_iff_iff, finsB_iff, List.all_eq_true]
  constructor
  · intro hf a ha b hb
    have hk : a * C + b < T.length := by rw [h.1]; exact tab_lt ha hb
    rw [← tab_get h hN ha hb, getD_of_lt hk]
    exact hf _ (List.getElem_mem hk)
  · intro hf x hx
    obtain ⟨k, hk, rfl⟩ := List.mem_iff_getElem.1 hx
    have hk2 := hk
    rw [h.1] at hk2
    have hC : 0 < C := Nat.pos_of_ne_zero (by rintro rfl; simp at hk2)
    have hb : k / C < R := Nat.div_lt_of_lt_mul (by rw [Nat.mul_comm]; exact hk2)
    have he : k / C * C + k % C = k := by rw [Nat.mul_comm]; exact Nat.div_add_mod k C
    have h1 := tab_get h hN hb (Nat.mod_lt k hC)
    rw [he, getD_of_lt hk] at h1
    rw [h1]
    exact hf _ hb _ (Nat.mod_lt k hC)
theorem tab_wds {l T : List Nat} {o R C L N : Nat} (h : Tab l o R C L N T) (hN : R * C = N) (hW : Wds l) : Wds T := by
  intro x hx
  obtain ⟨k, hk, rfl⟩ := List.mem_iff_getElem.1 hx
  have hk2 := hk
  rw [h.1] at hk2
  have hC : 0 < C := Nat.pos_of_ne_zero (by rintro rfl; simp at hk2)
  have hb : k / C < R := Nat.div_lt_of_lt_mul (by rw [Nat.mul_comm]; exact hk2)
  have he : k / C * C + k % C = k := by rw [Nat.mul_comm]; exact Nat.div_add_mod k C
  have h1 := tab_get h hN hb (Nat.mod_lt k hC)
  rw [he, getD_of_lt hk] at h1
  rw [h1]
  exact getD_wds hW _

theorem mfin_any (A : Option Addr) (n c : Nat) (l : List Nat) (o R C L N : Nat) (w : World) (hA : Row w A (f64s l)) (hW : Wds l) (hl : l.length = n) (hnc : n ≤ c) (hn : n < 1048576) (hb : o < 9223372036854775808 ∧ R < 9223372036854775808 ∧ C < 9223372036854775808 ∧ L < 9223372036854775808) (hN : R * C = N) (hL : 1 ≤ L) (hR : R ≤ L) (hr : R = 0 ∨ C = 0 ∨ o + (C - 1) * L + (R - 1) < n) :
    Calls Try.prog 18 #[mat A n c o R C L] w fun e w' => e = .returned (.bool (finsB l o R C L)) ∧ Below w.heap.size w w' := by
  have HG := Lib.hid (fun W => good_any A n c o R C L W (by omega) (by unfold I64; omega) (by unfold I64; omega) (by unfold I64; omega) (by unfold I64; omega))
  rw [mat_right hL hR hr] at HG
  have HNm := Lib.hid (fun W (hb' : Below w.heap.size w W) => numbers_any A n c l o R C L N W (hA.below hb') hl hnc hn hb hN hL hR hr)
  have HFi := Lib.hid (fun W (B : Option Addr) (d : Nat) (h : Row W B (f64s (colsL l o R L C))) => nfin_any B N d (colsL l o R L C) W h (colsL_wds hW o R L C) (by rw [colsL_length, Nat.mul_comm]; exact hN) (by have h9 := mat_size hR hr; rw [hN] at h9; exact Nat.lt_of_le_of_lt h9 hn))
  rw [fins_cols] at HFi
  generalize finsB l o R C L = x at *
  clear hA hW hl hnc hn hb hN hL hR hr
  unfold mat at *
  go_enter Try.func18, Try.ntmps18
  have HZ0 := Lib.hid (Blk.new w 24 #[.slice A n c, .int .i64 o, .int .i64 R, .int .i64 C, .int .i64 L])
  have HB0 := Lib.hid ((Below.refl w.heap.size w).alloc (Nat.le_refl _) (.cells #[.slice A n c, .int .i64 o, .int .i64 R, .int .i64 C, .int .i64 L] 24))
  go_wp2_with fail
  refine (HG.out _).mono ?_
  rintro e w1 ⟨rfl, hb⟩
  have HZ1 := Lib.hid (HZ0.out.nxt hb)
  have HB1 := Lib.hid (below_nx HB0.out hb)
  clear hb
  obtain ⟨c0, c1, c2, c3, c4⟩ := cells5 HZ1.out
  go_wp2_with fail
  refine (HNm.out _ HB1.out).mono ?_
  rintro e w2 ⟨B, dd, rfl, hrow, _, hb⟩
  have HRow := Lib.hid hrow
  have HB2 := Lib.hid (below_nx HB1.out hb)
  clear hb hrow c0 c1 c2 c3 c4
  go_wp2_with fail
  refine (HFi.out _ _ _ HRow.out).mono ?_
  rintro e w3 ⟨rfl, rfl⟩
  go_wp2_with fail
  go_ret
  exact ⟨rfl, HB2.out⟩
theorem rmfin_any (A : Option Addr) (n c : Nat) (l : List Nat) (o R C L N : Nat) (w : World) (hA : Row w A (f64s l)) (hW : Wds l) (hl : l.length = n) (hn : n < 1048576) (hb : o < 9223372036854775808 ∧ R < 9223372036854775808 ∧ C < 9223372036854775808 ∧ L < 9223372036854775808) (hN : R * C = N) (hL : 1 ≤ L) (hR : R ≤ L) (hr : R = 0 ∨ C = 0 ∨ o + (C - 1) * L + (R - 1) < n) :
    Calls Try.prog 19 #[mat A n c o R C L] w fun e w' => e = .returned (.bool (finsB l o R C L)) ∧ Below w.heap.size w w' := by
  have hNn : N < 1048576 := by have h9 := mat_size hR hr; rw [hN] at h9; exact Nat.lt_of_le_of_lt h9 hn
  have HG := Lib.hid (fun W => rgood_any A n c o R C L W (by omega) (by unfold I64; omega) (by unfold I64; omega) (by unfold I64; omega) (by unfold I64; omega))
  rw [mat_right hL hR hr] at HG
  have HOf := Lib.hid (fun W (hb' : Below w.heap.size w W) => rof_blk A n c l o R C L N W (hA.below hb') hl (by omega) hN (by omega) hb.2.1 hb.2.2.1 hr)
  have HFi := Lib.hid (fun W (g : Nat) (T : List Nat) (hT : Tab l o R C L N T) (h : Row W (some ⟨g, 0, none⟩) (f64s T)) => show Calls Try.prog 50 #[.slice (some ⟨g, 0, none⟩) N N] W fun e w' => e = .returned (.bool (finsB l o R C L)) ∧ W = w' from by
    have := rfin_any (some ⟨g, 0, none⟩) N N T W h (tab_wds hT hN hW) (hT.1.trans hN) hNn
    rw [fins_tab hT hN] at this; exact this)
  generalize finsB l o R C L = x at *
  clear hA hW hl hn hb hN hL hR hr hNn
  unfold mat tbl at *
  go_enter Try.func19, Try.ntmps19
  have HZ0 := Lib.hid (Blk.new w 24 #[.slice A n c, .int .i64 o, .int .i64 R, .int .i64 C, .int .i64 L])
  have HB0 := Lib.hid ((Below.refl w.heap.size w).alloc (Nat.le_refl _) (.cells #[.slice A n c, .int .i64 o, .int .i64 R, .int .i64 C, .int .i64 L] 24))
  go_wp2_with fail
  refine (HG.out _).mono ?_
  rintro e w1 ⟨rfl, hb⟩
  have HZ1 := Lib.hid (HZ0.out.nxt hb)
  have HB1 := Lib.hid (below_nx HB0.out hb)
  clear hb
  obtain ⟨c0, c1, c2, c3, c4⟩ := cells5 HZ1.out
  go_wp2_with fail
  refine (HOf.out _ HB1.out).mono ?_
  rintro e w2 ⟨g, T, rfl, hT, hBk, _, hb⟩
  have HT := Lib.hid hT
  have HRow := Lib.hid (row_of_blk hBk)
  have HB2 := Lib.hid (below_nx HB1.out hb)
  clear hb hT hBk c0 c1 c2 c3 c4
  go_wp2_with fail
  refine (HFi.out _ _ _ HT.out HRow.out).mono ?_
  rintro e w3 ⟨rfl, rfl⟩
  go_wp2_with fail
  go_ret
  exact ⟨rfl, HB2.out⟩
theorem fin_bad (A : Option Addr) (n c : Nat) (off r k ld : Int) (w : World) (hn : n < 9223372036854775808) (ho : I64 off) (hr : I64 r) (hk : I64 k) (hi : I64 ld) (hgd : matB n off r k ld = false) :
    (Calls Try.prog 18 #[mat A n c off r k ld] w fun e w' => e = .returned (.bool false) ∧ Below w.heap.size w w') ∧
    (Calls Try.prog 19 #[mat A n c off r k ld] w fun e w' => e = .returned (.bool false) ∧ Below w.heap.size w w') := by
  have HG := Lib.hid (fun W => good_any A n c off r k ld W hn ho hr hk hi)
  have HG' := Lib.hid (fun W => rgood_any A n c off r k ld W hn ho hr hk hi)
  rw [hgd] at HG HG'
  clear hn ho hr hk hi hgd
  have HB0 := Lib.hid ((Below.refl w.heap.size w).alloc (Nat.le_refl _) (.cells #[.slice A n c, .int .i64 off, .int .i64 r, .int .i64 k, .int .i64 ld] 24))
  unfold mat at *
  constructor
  · go_enter Try.func18, Try.ntmps18
    go_wp2_with fail
    refine (HG.out _).mono ?_
    rintro e w1 ⟨rfl, hb⟩
    have HB1 := Lib.hid (below_nx HB0.out hb)
    clear hb
    go_wp2_with fail
    go_ret
    exact ⟨rfl, HB1.out⟩
  · go_enter Try.func19, Try.ntmps19
    go_wp2_with fail
    refine (HG'.out _).mono ?_
    rintro e w1 ⟨rfl, hb⟩
    have HB1 := Lib.hid (below_nx HB0.out hb)
    clear hb
    go_wp2_with fail
    go_ret
    exact ⟨rfl, HB1.out⟩
theorem clone_err (A : Option Addr) (n c : Nat) (off r k ld : Int) (w : World) (hn : n < 9223372036854775808) (ho : I64 off) (hr : I64 r) (hk : I64 k) (hi : I64 ld) (hgd : matB n off r k ld = false) :
    Calls Try.prog 20 #[mat A n c off r k ld] w fun e w' => e = .returned (.tuple #[mat none 0 0 0 0 0 0, .int .i64 1]) ∧ Below w.heap.size w w' := by
  have HG := Lib.hid (fun W => good_any A n c off r k ld W hn ho hr hk hi)
  rw [hgd] at HG
  clear hn ho hr hk hi hgd
  unfold mat at *
  go_enter Try.func20, Try.ntmps20
  have HE0 := Lib.hid (Blk.new_ (w.alloc (.cells #[.slice A n c, .int .i64 off, .int .i64 r, .int .i64 k, .int .i64 ld] 24)) 24 #[.slice none 0 0, .int .i64 0, .int .i64 0, .int .i64 0, .int .i64 0] (w.heap.size + 1) (by simp))
  have HB0 := Lib.hid (((Below.refl w.heap.size w).alloc (Nat.le_refl _) (.cells #[.slice A n c, .int .i64 off, .int .i64 r, .int .i64 k, .int .i64 ld] 24)).alloc (by simp) (.cells #[.slice none 0 0, .int .i64 0, .int .i64 0, .int .i64 0, .int .i64 0] 24))
  go_wp2_with fail
  refine (HG.out _).mono ?_
  rintro e w1 ⟨rfl, hb⟩
  have HE1 := Lib.hid (HE0.out.nxt hb)
  have HB1 := Lib.hid (below_nx HB0.out hb)
  clear hb
  obtain ⟨z0, z1, z2, z3, z4⟩ := cells5 HE1.out
  obtain ⟨y0, y1, y2, y3, y4⟩ := frozen5 HE1.out
  have HSt := Lib.hid (HE1.out.store5 (.slice none 0 0) (.int .i64 0) (.int .i64 0) (.int .i64 0) (.int .i64 0))
  have hzq : w.heap.size ≤ w.heap.size + 1 := Nat.le_succ _
  have HBe := Lib.hid (show Below w.heap.size w (((((w1.setCell ⟨w.heap.size + 1, 0, none⟩ (.slice none 0 0)).setCell ⟨w.heap.size + 1, 1, none⟩ (.int .i64 0)).setCell ⟨w.heap.size + 1, 2, none⟩ (.int .i64 0)).setCell ⟨w.heap.size + 1, 3, none⟩ (.int .i64 0)).setCell ⟨w.heap.size + 1, 4, none⟩ (.int .i64 0)) from
    (((((HB1.out.setCell (p := ⟨w.heap.size + 1, 0, none⟩) hzq (.slice none 0 0)).setCell (p := ⟨w.heap.size + 1, 1, none⟩) hzq (.int .i64 0)).setCell (p := ⟨w.heap.size + 1, 2, none⟩) hzq (.int .i64 0)).setCell (p := ⟨w.heap.size + 1, 3, none⟩) hzq (.int .i64 0)).setCell (p := ⟨w.heap.size + 1, 4, none⟩) hzq (.int .i64 0)))
  go_wp2_with fail
  obtain ⟨j0, j1, j2, j3, j4⟩ := cells5 HSt.out
  exact bodyPost_ret (v := .tuple #[.agg #[.slice none 0 0, .int .i64 0, .int .i64 0, .int .i64 0, .int .i64 0], .int .i64 1]) (by simp [results, Try.results20, go_sem, j0, j1, j2, j3, j4]) rfl ⟨rfl, HBe.out⟩
end Go.Proofs.Ytamndbeffbcppaa
