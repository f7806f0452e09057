/-
Finite of a matrix, by the program and by the document; Clone of one that isn't right. Conditions: the matrix' list has at most 2^20 numbers.
-/
import Derived.Test.YtelpdbkkefpjhaaZKMio
import Derived.Test.YtelpdbkkefpjhaaWKj
import Derived.Test.YtelpdbkkefpjhaaWKk
set_option linter.unusedVariables false
set_option linter.unusedSimpArgs false
set_option linter.unnecessarySimpa false
namespace Go.Proofs.Ytelpdbkkefpjhaa
open Go.RowKit
attribute [local go_sem ↓] Go.wp_at_zero Go.wp_at_succ

@[go_sem] theorem run_field_A (r k : Int) (g n c : Nat) (w : World) : (Instr.field 32 (.agg #[.int .i64 r, .int .i64 k, .slice (some ⟨g, 0, none⟩) n c]) 2).run Try.prog w = .ok (.slice (some ⟨g, 0, none⟩) n c) w := by kernel_rfl

/-- Are all the matrix' numbers finite? -/
def finsB (l : List Nat) (o R C L : Nat) : Bool := (List.range R).all fun a => (List.range C).all fun b => Fl.fin (l.getD (o + a + b * L) 0)
theorem finsB_iff (l : List Nat) (o R C L : Nat) : finsB l o R C L = true ↔ ∀ a, a < R → ∀ b, b < C → Fl.fin (l.getD (o + a + b * L) 0) = true := by
  unfold finsB
  simp [List.all_eq_true]
theorem fins_cols {l : List Nat} {o R C L : Nat} : (colsL l o R L C).all Fl.fin = finsB l o R C L := by
  rw [Bool.eq_iff_iff, finsB_iff, List.all_eq_true]
  constructor
  · intro h a ha b hb
    have hk : b * R + a < (colsL l o R L C).length := by
      rw [colsL_length]
      have : (b + 1) * R ≤ C * R := Nat.mul_le_mul_right _ hb
      rw [Nat.add_mul] at this; omega
    rw [← colsL_getD l o R L ha hb, getD_of_lt hk]
    exact h _ (List.getElem_mem hk)
  · intro h x hx
    obtain ⟨k, hk, rfl⟩ := List.mem_iff_getElem.1 hx
    have hk2 := hk
    rw [colsL_length] at hk2
    have hR : 0 < R := Nat.pos_of_ne_zero (by rintro rfl; simp at hk2)
    have hb : k / R < C := Nat.div_lt_of_lt_mul (by rw [Nat.mul_comm]; exact hk2)
    have he : k / R * R + k % R = k := by rw [Nat.mul_comm]; exact Nat.div_add_mod k R
    have h1 := colsL_getD l o R L (Nat.mod_lt k hR) hb
    rw [he, getD_of_lt hk] at h1
    rw [h1]
    exact h _ (Nat.mod_lt k hR) _ hb
theorem mfin_any (A : Option Addr) (n c : Nat) (l : List Nat) (o R C L N : Nat) (w : World) (hA : Row w A (f64s l)) (hW : Wds l) (hl : l.length = n) (hnc : n ≤ c) (hn : n < 1048576) (hb : o < 9223372036854775808 ∧ R < 9223372036854775808 ∧ C < 9223372036854775808 ∧ L < 9223372036854775808) (hN : R * C = N) (hL : 1 ≤ L) (hR : R ≤ L) (hr : R = 0 ∨ C = 0 ∨ o + (C - 1) * L + (R - 1) < n) :
    Calls Try.prog 24 #[mat A n c o R C L] w fun e w' => e = .returned (.bool (finsB l o R C L)) ∧ Below w.heap.size w w' := by
  have HG := Lib.hid (fun W => good_any A n c o R C L W (by omega) (by unfold I64; omega) (by unfold I64; omega) (by unfold I64; omega) (by unfold I64; omega))
  rw [mat_right hL hR hr] at HG
  have HNm := Lib.hid (fun W (hb' : Below w.heap.size w W) => numbers_any A n c l o R C L N W (hA.below hb') hl hnc hn hb hN hL hR hr)
  have HFi := Lib.hid (fun W (B : Option Addr) (d : Nat) (h : Row W B (f64s (colsL l o R L C))) => nfin_any B N d (colsL l o R L C) W h (colsL_wds hW o R L C) (by rw [colsL_length, Nat.mul_comm]; exact hN) (by have h9 := mat_size hR hr; rw [hN] at h9; exact Nat.lt_of_le_of_lt h9 hn))
  rw [fins_cols] at HFi
  generalize finsB l o R C L = x at *
  clear hA hW hl hnc hn hb hN hL hR hr
  unfold mat at *
  go_enter Try.func24, Try.ntmps24
  have HZ0 := Lib.hid (Blk.new w 24 #[.slice A n c, .int .i64 o, .int .i64 R, .int .i64 C, .int .i64 L])
  have HB0 := Lib.hid ((Below.refl w.heap.size w).alloc (Nat.le_refl _) (.cells #[.slice A n c, .int .i64 o, .int .i64 R, .int .i64 C, .int .i64 L] 24))
  go_wp2_with fail
  refine (HG.out _).mono ?_
  rintro e w1 ⟨rfl, hb⟩
  have HZ1 := Lib.hid (HZ0.out.nxt hb)
  have HB1 := Lib.hid (below_nx HB0.out hb)
  clear hb
  obtain ⟨c0, c1, c2, c3, c4⟩ := cells5 HZ1.out
  go_wp2_with fail
  refine (HNm.out _ HB1.out).mono ?_
  rintro e w2 ⟨B, dd, rfl, hrow, _, hb⟩
  have HRow := Lib.hid hrow
  have HB2 := Lib.hid (below_nx HB1.out hb)
  clear hb hrow c0 c1 c2 c3 c4
  go_wp2_with fail
  refine (HFi.out _ _ _ HRow.out).mono ?_
  rintro e w3 ⟨rfl, rfl⟩
  go_wp2_with fail
  go_ret
  exact ⟨rfl, HB2.out⟩
end Go.Proofs.Ytelpdbkkefpjhaa
