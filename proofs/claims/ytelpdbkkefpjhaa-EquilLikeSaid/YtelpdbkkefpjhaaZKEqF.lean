/-
Equil: the law's ints, the document's example, what agrees. Conditions: as each says.
-/
import Derived.Test.YtelpdbkkefpjhaaZKEqD
import Derived.Test.YtelpdbkkefpjhaaZKGrE
import Derived.Test.YtelpdbkkefpjhaaWKl
import Derived.BigQuiet
import Derived.Test.YtelpdbkkefpjhaaWKd
set_option linter.unusedVariables false
set_option linter.unusedSimpArgs false
set_option linter.unnecessarySimpa false
namespace Go.Proofs.Ytelpdbkkefpjhaa
open Go.RowKit
attribute [local go_sem ↓] Go.wp_at_zero Go.wp_at_succ

theorem eqrow_i {w : World} {g : Nat} {l : List Int} (h : Blk w g 3 (i64s l).toArray) : Row w (some ⟨g, 0, none⟩) (i64s l) := .inr ⟨g, 0, rfl, fun i v hi => by
  rw [Nat.zero_add, h.cell i]
  simpa using hi⟩
set_option maxHeartbeats 1000000 in
theorem eqints_any (A B : Option Addr) (n c d : Nat) (l : List Int) (w : World) (hA : Row w A (i64s l)) (hB : Row w B (i64s l)) (hl : l.length = n) (hn : n < 1048576) :
    Calls Try.prog 13 #[.slice A n c, .slice B n d] w fun e w' => e = .returned (.bool true) ∧ Below w.heap.size w w' := by
  have HA := Lib.hid hA
  have HB := Lib.hid hB
  have Hl := Lib.hid hl
  have en : ((n : Int) != (n : Int)) = false := by simp
  clear hA hB hl
  go_enter Try.func13, Try.ntmps13
  have HB0 := Lib.hid (Below.refl w.heap.size w)
  go_wp2_with fail
  go_loopw [5] (fun a wr => ∃ q : Nat, q ≤ n ∧ a = .int .i64 q ∧ Below w.heap.size w wr) (fun a _ => n - (intOf a).toNat)
  case atStart => exact ⟨0, Nat.zero_le _, rfl, HB0.out⟩
  case round =>
    obtain ⟨q, hq, rfl, hbl⟩ := hrel
    have HBl := Lib.hid hbl
    clear hbl
    by_cases hlt : q < n
    · have hqc : (q : Int) < (n : Int) := by omega
      have hq0 : (0 : Int) ≤ (q : Int) := by omega
      have hq1 : q + 1 ≤ 1048576 := by omega
      have hkl : q < l.length := by rw [Hl.out]; exact hlt
      obtain ⟨b1, x1, rfl, _, hc1⟩ := HA.out.at_ (i64s_get l _ hkl)
      obtain ⟨b2, x2, rfl, _, hc2⟩ := HB.out.at_ (i64s_get l _ hkl)
      have hd1 := cell_below hc1 HBl.out
      have hd2 := cell_below hc2 HBl.out
      clear hc1 hc2
      generalize l[q] = z at *
      have ez : (z != z) = false := by simp
      clear hkl
      go_wp2_with fail
      go_quiet (fail)
      go_wp2_with fail
      go_roundw
      case rel => exact ⟨q + 1, by omega, by go_num, below_drewN HBl.out _⟩
      case measure => simp [intOf]; omega
    · obtain rfl : n = q := by omega
      have hqc : ¬ (n : Int) < (n : Int) := by omega
      go_wp2_with fail
      go_ret
      exact ⟨rfl, HBl.out⟩

def exQ1 : List Nat := [4620693217682128896, 0, 4607182418800017408, 4611686018427387904]
def exQ2 : List Nat := [4620693217682128896, 4607182418800017408, 0, 4611686018427387904]
theorem exQ_at : fAt (tX exQ2 0 2) 2 2 = 0 := by decide +kernel
theorem exQ_r : cnt (rE (tX exQ2 0 2) 2) 2 = [-3, -1] := by decide +kernel
theorem exQ_c : cnt (cE (tX exQ2 0 2) 2 2) 2 = [0, 0] := by decide +kernel
theorem exQ_fin : finsB exQ2 0 2 2 2 = true := by decide +kernel
theorem exQ_wds : Wds exQ2 := by
  intro b hb
  simp only [exQ2, List.mem_cons, List.not_mem_nil, or_false] at hb
  omega
set_option maxHeartbeats 1000000 in
theorem awake15_any (w : World) : Calls Try.prog 6 #[] w fun e w' => e = .returned (.bool true) ∧ Below w.heap.size w w' := by
  have z0 : I64 0 := (by unfold I64; omega)
  have z2 : I64 2 := (by unfold I64; omega)
  have HDn := Lib.hid (fun W (A : Option Addr) (hA : Row W A (f64s exQ1)) => show Calls Try.prog 22 #[.int .i64 2, .int .i64 2, .slice A 4 4] W fun e w' => ∃ g, e = .returned (.agg #[.slice (some ⟨g, 0, none⟩) 4 4, .int .i64 0, .int .i64 2, .int .i64 2, .int .i64 2]) ∧ Own w' g exQ2 ∧ Below W.heap.size W w' from by
    refine (dense_blk A 4 exQ1 2 2 W (by omega) (by omega) hA (by decide) (by decide)).mono ?_
    rintro e w' ⟨g', M, rfl, hd, hB, hg, hb⟩
    obtain rfl := dense_ex hd
    exact ⟨g', rfl, own_blk hB, hb⟩)
  have HFc := Lib.hid (fun (g : Nat) W (hO : Own W g exQ2) => show Calls Try.prog 8 #[.agg #[.slice (some ⟨g, 0, none⟩) 4 4, .int .i64 0, .int .i64 2, .int .i64 2, .int .i64 2]] W fun e w' => ∃ A c B d, e = .returned (.tuple #[.slice A 2 c, .slice B 2 d, .int .i64 0, .int .i64 0]) ∧ Row w' A (i64s [-3, -1]) ∧ Row w' B (i64s [0, 0]) ∧ Below W.heap.size W w' from by
    refine (eqfactors_any (some ⟨g, 0, none⟩) 4 4 exQ2 0 2 2 2 W hO.row exQ_wds rfl (by omega) (by omega) z0 z2 (by omega) (by omega) (by omega) (by omega) (by omega) exQ_fin).mono ?_
    rintro e w' (⟨A, c, B, d, _, rfl, h1, h2, _, _, h3⟩ | ⟨k, h1, h2, _⟩)
    · rw [exQ_r] at h1
      rw [exQ_c] at h2
      exact ⟨A, c, B, d, rfl, h1, h2, h3⟩
    · exact absurd (h1.symm.trans exQ_at) h2)
  have HIn := Lib.hid (fun (A B : Option Addr) (c d : Nat) (l : List Int) W (hl : l.length = 2) (hA : Row W A (i64s l)) (hB : Row W B (i64s l)) => eqints_any A B 2 c d l W hA hB hl (by omega))
  clear z0 z2
  go_enter Try.func6, Try.ntmps6
  have HR1 := Lib.hid (own_blk (Blk.new w 45 (f64s exQ1).toArray)).row
  have HB1 := Lib.hid ((Below.refl w.heap.size w).alloc (Nat.le_refl _) (.cells (f64s exQ1).toArray 45))
  go_wp2_with fail
  refine (HDn.out _ _ HR1.out).mono ?_
  rintro e w2 ⟨g, rfl, hO, hb⟩
  have HB2 := Lib.hid (below_nx HB1.out hb)
  have HO2 := Lib.hid hO
  clear hb hO
  go_wp2_with fail
  refine (HFc.out g _ HO2.out).mono ?_
  rintro e w3 ⟨A, c, B, d, rfl, hA, hB, hb⟩
  have HB3 := Lib.hid (below_al (below_nx HB2.out hb) (o := .cells (i64s [-3, -1]).toArray 3))
  have HA3 := Lib.hid (hA.below (below_one (o := .cells (i64s [-3, -1]).toArray 3)))
  have HC3 := Lib.hid (hB.below (below_one (o := .cells (i64s [-3, -1]).toArray 3)))
  have HL3 := Lib.hid (eqrow_i (Blk.new w3 3 (i64s [-3, -1]).toArray))
  clear hb hA hB
  go_wp2_with fail
  refine (HIn.out A _ c 2 _ _ rfl HA3.out HL3.out).mono ?_
  rintro e w4 ⟨rfl, hb⟩
  have HB4 := Lib.hid (below_al (below_nx HB3.out hb) (o := .cells (i64s [0, 0]).toArray 3))
  have HC4 := Lib.hid ((HC3.out.below hb).below (below_one (o := .cells (i64s [0, 0]).toArray 3)))
  have HL4 := Lib.hid (eqrow_i (Blk.new w4 3 (i64s [0, 0]).toArray))
  clear hb
  go_wp2_with fail
  refine (HIn.out B _ d 2 _ _ rfl HC4.out HL4.out).mono ?_
  rintro e w5 ⟨rfl, hb⟩
  have HB5 := Lib.hid (below_nx HB4.out hb)
  clear hb
  go_wp2_with fail
  go_ret
  exact ⟨rfl, HB5.out⟩
end Go.Proofs.Ytelpdbkkefpjhaa
