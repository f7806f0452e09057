/-
Trsm: is one on the diagonal 0; what fits. Conditions: as each says.
-/
import Derived.Test.YtcdhpoikppfjkaaZYTrC
import Derived.Test.YtcdhpoikppfjkaaWaah
import Derived.Test.YtcdhpoikppfjkaaWaai
import Derived.Deep.MidRow
set_option linter.unusedVariables false
set_option linter.unusedSimpArgs false
set_option linter.unnecessarySimpa false
namespace Go.Proofs.Ytcdhpoikppfjkaa
open Go.RowKit
attribute [local go_sem ↓] Go.wp_at_zero Go.wp_at_succ

theorem cells11 {w : World} {g : Nat} {t : TypeId} {v0 v1 v2 v3 v4 v5 v6 v7 v8 v9 v10 : Value} (h : Blk w g t #[v0, v1, v2, v3, v4, v5, v6, v7, v8, v9, v10]) :
    w.cell? ⟨g, 0, none⟩ = some v0 ∧ w.cell? ⟨g, 1, none⟩ = some v1 ∧ w.cell? ⟨g, 2, none⟩ = some v2 ∧ w.cell? ⟨g, 3, none⟩ = some v3 ∧ w.cell? ⟨g, 4, none⟩ = some v4 ∧ w.cell? ⟨g, 5, none⟩ = some v5 ∧ w.cell? ⟨g, 6, none⟩ = some v6 ∧ w.cell? ⟨g, 7, none⟩ = some v7 ∧ w.cell? ⟨g, 8, none⟩ = some v8 ∧ w.cell? ⟨g, 9, none⟩ = some v9 ∧ w.cell? ⟨g, 10, none⟩ = some v10 :=
  ⟨h.cell 0, h.cell 1, h.cell 2, h.cell 3, h.cell 4, h.cell 5, h.cell 6, h.cell 7, h.cell 8, h.cell 9, h.cell 10⟩
/-- Is one on the diagonal 0? -/
def tsHZ (f : Nat → Nat → Nat) (R : Nat) : Bool := (List.range R).any fun i => trZ0 (f i i)
theorem tsHZ_step {f : Nat → Nat → Nat} {i : Nat} (h : tsHZ f i = false) (hz : trZ0 (f i i) = false) : tsHZ f (i + 1) = false := by
  unfold tsHZ at *
  rw [List.range_succ, List.any_append, h]
  simp [hz]
theorem tsHZ_true {f : Nat → Nat → Nat} {i R : Nat} (hi : i < R) (hz : trZ0 (f i i) = true) : tsHZ f R = true := by
  unfold tsHZ
  rw [List.any_eq_true]
  exact ⟨i, List.mem_range.2 hi, hz⟩
theorem tsHZ_two (f : Nat → Nat → Nat) (R : Nat) : trHZ 2 f R = tsHZ f R := rfl
theorem tsHZ_not {f : Nat → Nat → Nat} {R i : Nat} (h : tsHZ f R = false) (hi : i < R) : trZ0 (f i i) = false := by
  cases hz : trZ0 (f i i)
  · rfl
  · rw [tsHZ_true hi hz] at h; cases h

set_option maxHeartbeats 1000000 in
theorem tshaszero_any (kd : Int) (A : Option Addr) (n c o R L : Nat) (f : Nat → Nat → Nat) (A2 : Option Addr) (n2 c2 : Nat) (o2 r2 k2 ld2 : Int) (w : World) (hM : MxC w A o R L f) (hn : n < 1048576) (hLI : I64 L) (hRb : R < 1048576) (hL1 : 1 ≤ L) (hRL : R ≤ L) (hmr : R = 0 ∨ R = 0 ∨ o + (R - 1) * L + (R - 1) < n) :
    Calls Try.prog 31 #[.agg #[.int .i64 (kd : Int), .slice A n c, .int .i64 (o : Int), .int .i64 (R : Int), .int .i64 (R : Int), .int .i64 (L : Int), .slice A2 n2 c2, .int .i64 o2, .int .i64 r2, .int .i64 k2, .int .i64 ld2]] w fun e w' => e = .returned (.bool (tsHZ f R)) ∧ Below w.heap.size w w' := by
  have HN := Lib.hid (fun i (hi : i < R) W (hb : Below w.heap.size w W) => show Calls Try.prog 45 #[mat A n c o R R L, .int .i64 i, .int .i64 i] W fun e w' => e = .returned (.float .f64 (f i i)) ∧ Below W.heap.size W w' from by
    obtain ⟨b, x, rfl, hc⟩ := hM.below hb i hi i hi
    exact vat_cell b x n c o R R L i i (f i i) W hc hn hLI hRb hRb hL1 hRL hmr hi hi)
  clear hM hn hLI hL1 hRL hmr
  unfold mat at *
  go_enter Try.func31, Try.ntmps31
  have HZ := Lib.hid (Blk.new w 45 #[.int .i64 (kd : Int), .slice A n c, .int .i64 (o : Int), .int .i64 (R : Int), .int .i64 (R : Int), .int .i64 (L : Int), .slice A2 n2 c2, .int .i64 o2, .int .i64 r2, .int .i64 k2, .int .i64 ld2])
  have HB0 := Lib.hid ((Below.refl w.heap.size w).alloc (Nat.le_refl _) (.cells #[.int .i64 (kd : Int), .slice A n c, .int .i64 (o : Int), .int .i64 (R : Int), .int .i64 (R : Int), .int .i64 (L : Int), .slice A2 n2 c2, .int .i64 o2, .int .i64 r2, .int .i64 k2, .int .i64 ld2] 45))
  obtain ⟨z0, z1, z2, z3, z4, z5, z6, z7, z8, z9, z10⟩ := cells11 HZ.out
  go_wp2_with fail
  clear z0 z1 z2 z3 z4 z5 z6 z7 z8 z9 z10
  go_loopw [7] (fun x wr => ∃ i1 : Nat, i1 ≤ R ∧ x = .int .i64 (i1 : Int) ∧ Hid (tsHZ f i1 = false ∧ Blk wr w.heap.size 45 #[.int .i64 (kd : Int), .slice A n c, .int .i64 (o : Int), .int .i64 (R : Int), .int .i64 (R : Int), .int .i64 (L : Int), .slice A2 n2 c2, .int .i64 o2, .int .i64 r2, .int .i64 k2, .int .i64 ld2] ∧ Below w.heap.size w wr)) (fun x _ => R - (intOf x).toNat)
  case atStart => exact ⟨0, Nat.zero_le _, rfl, Lib.hid ⟨rfl, HZ.out, HB0.out⟩⟩
  case round =>
    obtain ⟨i1, hi1, rfl, HS⟩ := hrel
    by_cases hlt : i1 < R
    · have har : (i1 : Int) < (R : Int) := by omega
      have ha1 : i1 + 1 ≤ 1048576 := by omega
      have HNi := Lib.hid (HN.out i1 hlt)
      have HT := Lib.hid (fun (h : trZ0 (f i1 i1) = true) => tsHZ_true (R := R) hlt h)
      have HF := Lib.hid (fun (h : trZ0 (f i1 i1) = false) => tsHZ_step HS.out.1 h)
      obtain ⟨v, hv⟩ : ∃ v, f i1 i1 = v := ⟨_, rfl⟩
      rw [hv] at HNi HT HF
      clear hv
      have HBw := Lib.hid HS.out.2.2
      obtain ⟨z0, z1, z2, z3, z4, z5, z6, z7, z8, z9, z10⟩ := cells11 HS.out.2.1
      go_wp2_with fail
      refine (HNi.out _ HS.out.2.2).mono ?_
      rintro e wa ⟨rfl, hb⟩
      have HZ2 := Lib.hid (HS.out.2.1.nxt hb)
      have HB2 := Lib.hid (below_nx HS.out.2.2 hb)
      clear hb z0 z1 z2 z3 z4 z5 z6 z7 z8 z9 z10
      obtain ⟨q, hq⟩ : ∃ q, trZ0 v = q := ⟨_, rfl⟩
      rw [hq] at HT HF
      unfold trZ0 at hq
      cases q
      · replace HF := Lib.hid (HF.out rfl)
        go_wp2_with fail
        go_roundw
        case rel => exact ⟨i1 + 1, by omega, by go_num, Lib.hid ⟨HF.out, HZ2.out, HB2.out⟩⟩
        case measure => simp [intOf]; omega
      · replace HT := Lib.hid (HT.out rfl)
        go_wp2_with fail
        go_ret
        exact ⟨ret_bool HT.out.symm, HB2.out⟩
    · obtain rfl : R = i1 := by omega
      have hbb : ¬ (R : Int) < (R : Int) := by omega
      obtain ⟨z0, z1, z2, z3, z4, z5, z6, z7, z8, z9, z10⟩ := cells11 HS.out.2.1
      go_wp2_with fail
      go_ret
      exact ⟨ret_bool HS.out.1.symm, HS.out.2.2⟩

set_option maxHeartbeats 4000000 in
/-- Why a system can't be solved. -/
theorem tsfits_any (kd size : Int) (A : Option Addr) (n c : Nat) (o r k ld : Int) (A2 : Option Addr) (n2 c2 : Nat) (o2 r2 k2 ld2 : Int) (E : Int) (w : World) (b1 b2 q1 q2 m1 hz : Bool)
    (hG1 : ∀ W, Calls Try.prog 29 #[mat A n c o r k ld] W fun e w' => e = .returned (.bool b1) ∧ Below W.heap.size W w')
    (hG2 : ∀ W, Calls Try.prog 29 #[mat A2 n2 c2 o2 r2 k2 ld2] W fun e w' => e = .returned (.bool b2) ∧ Below W.heap.size W w')
    (h1 : (r != k) = q1) (h2 : (r2 != r) = q2)
    (hM : (b1 && b2) = true → (q1 || q2) = false → ∀ W, Below w.heap.size w W → Calls Try.prog 30 #[mat A2 n2 c2 o2 r2 k2 ld2, mat A n c o r k ld] W fun e w' => e = .returned (.bool m1) ∧ Below W.heap.size W w')
    (hZ : kd = 2 → (b1 && b2) = true → (q1 || q2) = false → m1 = false → ∀ W, Below w.heap.size w W → Calls Try.prog 31 #[.agg #[.int .i64 kd, .slice A n c, .int .i64 o, .int .i64 r, .int .i64 k, .int .i64 ld, .slice A2 n2 c2, .int .i64 o2, .int .i64 r2, .int .i64 k2, .int .i64 ld2]] W fun e w' => e = .returned (.bool hz) ∧ Below W.heap.size W w')
    (hE : E = if ((kd ≠ 1 ∧ kd ≠ 2) ∨ size < 1) ∨ (b1 && b2) = false then 1 else if (q1 || q2) = true then 3 else if m1 = true then 2 else if kd = 2 ∧ hz = true then 4 else 0) :
    Calls Try.prog 17 #[.agg #[.int .i64 kd, .slice A n c, .int .i64 o, .int .i64 r, .int .i64 k, .int .i64 ld, .slice A2 n2 c2, .int .i64 o2, .int .i64 r2, .int .i64 k2, .int .i64 ld2], .int .i64 size] w fun e w' => e = .returned (.int .i64 E) ∧ Below w.heap.size w w' := by
  have HG1 := Lib.hid hG1
  have HG2 := Lib.hid hG2
  have HM := Lib.hid hM
  have HHz := Lib.hid hZ
  clear hG1 hG2 hM hZ
  have HB := Lib.hid ((Below.refl w.heap.size w).alloc (Nat.le_refl _) (.cells #[.int .i64 kd, .slice A n c, .int .i64 o, .int .i64 r, .int .i64 k, .int .i64 ld, .slice A2 n2 c2, .int .i64 o2, .int .i64 r2, .int .i64 k2, .int .i64 ld2] 45))
  have HZ := Lib.hid (Blk.new w 45 #[.int .i64 kd, .slice A n c, .int .i64 o, .int .i64 r, .int .i64 k, .int .i64 ld, .slice A2 n2 c2, .int .i64 o2, .int .i64 r2, .int .i64 k2, .int .i64 ld2])
  unfold mat at *
  by_cases hbad : kd ≠ 1 ∧ kd ≠ 2
  · obtain ⟨k1, k2'⟩ := hbad
    have t1 : (kd != 1) = true := by simp [k1]
    have t2 : (kd != 2) = true := by simp [k2']
    rw [if_pos (.inl (.inl ⟨k1, k2'⟩))] at hE
    subst hE
    clear HG1 HG2 HM HHz
    obtain ⟨z0, z1, z2, z3, z4, z5, z6, z7, z8, z9, z10⟩ := cells11 HZ.out
    go_enter Try.func17, Try.ntmps17
    go_wp2_with fail
    go_ret
    exact ⟨rfl, HB.out⟩
  · by_cases hs : size < 1
    · rw [if_pos (.inl (.inr hs))] at hE
      subst hE
      clear HG1 HG2 HM HHz
      have hk : kd = 1 ∨ kd = 2 := by omega
      clear hbad
      rcases hk with rfl | rfl
      all_goals
        obtain ⟨z0, z1, z2, z3, z4, z5, z6, z7, z8, z9, z10⟩ := cells11 HZ.out
        go_enter Try.func17, Try.ntmps17
        go_wp2_with fail
        go_ret
        exact ⟨rfl, HB.out⟩
    · have hk : kd = 1 ∨ kd = 2 := by omega
      have hns : ¬ ((kd ≠ 1 ∧ kd ≠ 2) ∨ size < 1) := fun h => by rcases h with h | h <;> omega
      simp only [hns, false_or] at hE
      clear hbad hns
      have key : b1 = false ∨ (b1 = true ∧ b2 = false) ∨ (b1 = true ∧ b2 = true ∧ q1 = true) ∨ (b1 = true ∧ b2 = true ∧ q1 = false ∧ q2 = true) ∨ (b1 = true ∧ b2 = true ∧ q1 = false ∧ q2 = false ∧ m1 = true) ∨ (b1 = true ∧ b2 = true ∧ q1 = false ∧ q2 = false ∧ m1 = false) := by
        cases b1 <;> cases b2 <;> cases q1 <;> cases q2 <;> cases m1 <;> simp
      rcases key with rfl | ⟨rfl, rfl⟩ | ⟨rfl, rfl, rfl⟩ | ⟨rfl, rfl, rfl, rfl⟩ | ⟨rfl, rfl, rfl, rfl, rfl⟩ | ⟨rfl, rfl, rfl, rfl, rfl⟩
      all_goals
        simp only [Bool.false_and, Bool.true_and, Bool.and_false, Bool.and_true, Bool.false_or, Bool.true_or, Bool.or_false, Bool.or_true, if_true, if_false, Bool.true_eq_false, Bool.false_eq_true] at hE
      rotate_left 5
      · have HX := Lib.hid (HM.out rfl rfl)
        clear HM
        rcases hk with rfl | rfl
        · rw [if_neg (fun h => by omega)] at hE
          subst hE
          clear HHz
          obtain ⟨z0, z1, z2, z3, z4, z5, z6, z7, z8, z9, z10⟩ := cells11 HZ.out
          go_enter Try.func17, Try.ntmps17
          repeat
            go_wp2_with fail
            first | with_reducible refine (HG1.out _).mono ?_ | with_reducible refine (HG2.out _).mono ?_ | with_reducible refine (HX.out _ HB.out).mono ?_
            rintro e w1 ⟨rfl, hb⟩
            replace HZ := Lib.hid (HZ.out.nxt hb)
            replace HB := Lib.hid (below_nx HB.out hb)
            clear hb z0 z1 z2 z3 z4 z5 z6 z7 z8 z9 z10
            obtain ⟨z0, z1, z2, z3, z4, z5, z6, z7, z8, z9, z10⟩ := cells11 HZ.out
          go_wp2_with fail
          go_ret
          exact ⟨rfl, HB.out⟩
        · have HY := Lib.hid (HHz.out rfl rfl rfl rfl)
          clear HHz
          cases hz
          all_goals
            simp only [true_and, if_true, if_false, Bool.true_eq_false, Bool.false_eq_true] at hE
            subst hE
            obtain ⟨z0, z1, z2, z3, z4, z5, z6, z7, z8, z9, z10⟩ := cells11 HZ.out
            go_enter Try.func17, Try.ntmps17
            repeat
              go_wp2_with fail
              first | with_reducible refine (HG1.out _).mono ?_ | with_reducible refine (HG2.out _).mono ?_ | with_reducible refine (HX.out _ HB.out).mono ?_ | with_reducible refine (HY.out _ HB.out).mono ?_
              rintro e w1 ⟨rfl, hb⟩
              replace HZ := Lib.hid (HZ.out.nxt hb)
              replace HB := Lib.hid (below_nx HB.out hb)
              clear hb z0 z1 z2 z3 z4 z5 z6 z7 z8 z9 z10
              obtain ⟨z0, z1, z2, z3, z4, z5, z6, z7, z8, z9, z10⟩ := cells11 HZ.out
            go_wp2_with fail
            go_ret
            exact ⟨rfl, HB.out⟩
      all_goals
        subst hE
        clear HHz
        first | (have HX := Lib.hid (HM.out rfl rfl); clear HM) | (have HX := Lib.hid True.intro; clear HM)
        rcases hk with rfl | rfl
        all_goals
          obtain ⟨z0, z1, z2, z3, z4, z5, z6, z7, z8, z9, z10⟩ := cells11 HZ.out
          go_enter Try.func17, Try.ntmps17
          repeat
            go_wp2_with fail
            first | with_reducible refine (HG1.out _).mono ?_ | with_reducible refine (HG2.out _).mono ?_ | with_reducible refine (HX.out _ HB.out).mono ?_
            rintro e w1 ⟨rfl, hb⟩
            replace HZ := Lib.hid (HZ.out.nxt hb)
            replace HB := Lib.hid (below_nx HB.out hb)
            clear hb z0 z1 z2 z3 z4 z5 z6 z7 z8 z9 z10
            obtain ⟨z0, z1, z2, z3, z4, z5, z6, z7, z8, z9, z10⟩ := cells11 HZ.out
          go_wp2_with fail
          go_ret
          exact ⟨rfl, HB.out⟩
end Go.Proofs.Ytcdhpoikppfjkaa
