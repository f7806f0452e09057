/-
The document's answer for dyadic numbers: Int.
-/
import Derived.Test.YtajcjpbfmpljkaaDoorZRdC
set_option linter.unusedVariables false
namespace Go.Proofs.YtajcjpbfmpljkaaDoor
open Go.RowKit
attribute [local go_sem ↓] Go.wp_at_zero Go.wp_at_succ

set_option maxHeartbeats 1000000 in
theorem rint_any (k : Int) (w : World) (h0 : -9223372036854775808 ≤ k) (h1 : k ≤ 9223372036854775807) :
    Calls Tryd.prog 7 #[.int .i64 k] w (RetR (dy k 0) w) := by
  obtain ⟨D, hD⟩ : ∃ D, dy k 0 = D := ⟨_, rfl⟩
  rw [hD]
  by_cases hk : k < 0
  · obtain ⟨m, hm⟩ : ∃ m : Nat, k = -(m : Int) := ⟨k.natAbs, by omega⟩
    have hDm : dy (if true = true then -(m : Int) else (m : Int)) 0 = D := by rw [← hD, hm]; rfl
    have hm1 : m < 18446744073709551616 := by omega
    have hmp : 1 ≤ m := by omega
    have hmq : m ≤ 9223372036854775808 := by omega
    have HD := Lib.hid (show ∀ W, Calls Tryd.prog 21 #[.bool true, .int .u64 (m : Int)] W (RetR D W) from fun W => by rw [← hDm]; exact whole_any true m W hm1)
    subst hm
    clear hD hDm hk h0 h1
    have e0 : (-(m : Int) < 0) := by omega
    have e1 : IntKind.i64.wrap (-(-(m : Int) + 1)) = ((m - 1 : Nat) : Int) := by rw [IntWalk.i64_in _ (by omega)]; omega
    go_enter Tryd.func7, Tryd.ntmps7
    go_wp2_with fail
    rw [show ((m - 1 : Nat) : Int) + 1 = (m : Int) by omega]
    refine (HD.out _).mono ?_
    rintro e w2 ⟨ng', A', n', c', E, L', rfl, hR', hN, hd, hb⟩
    have hB2 := (Blk.new w 32 #[.bool false, .slice none 0 0, .int .i64 0]).next hb
    have HB2 := Lib.hid hB2
    have f0 := hB2.frozen 0
    have f1 := hB2.frozen 1
    have f2 := hB2.frozen 2
    obtain ⟨r0, r1, r2⟩ := cells3 hB2
    have HR := Lib.hid hR'
    have HN := Lib.hid hN
    have HDd := Lib.hid hd
    have HBl := Lib.hid (((Below.refl w.heap.size w).alloc (Nat.le_refl _) (.cells #[.bool false, .slice none 0 0, .int .i64 0] 32)).trans (hb.mono (by simp)))
    clear hb hB2 hR' hN hd
    go_wp2_with fail
    obtain ⟨q0, q1, q2⟩ := cells3 (Blk.store3 HB2.out (.bool ng') (.slice A' n' c') (.int .i64 E))
    exact bodyPost_ret (v := .agg #[.bool ng', .slice A' n' c', .int .i64 E]) (by simp [results, Tryd.results7, go_sem, q0, q1, q2]) rfl
      ⟨ng', A', n', c', E, L', rfl, Rd.store3 HR.out HN.out HB2.out _ _ _, HN.out, HDd.out, ((HBl.out.setCell (p := ⟨w.heap.size, 0, none⟩) (Nat.le_refl _) _).setCell (p := ⟨w.heap.size, 1, none⟩) (Nat.le_refl _) _).setCell (p := ⟨w.heap.size, 2, none⟩) (Nat.le_refl _) _⟩
  · obtain ⟨m, hm⟩ : ∃ m : Nat, k = (m : Int) := ⟨k.natAbs, by omega⟩
    have hDm : dy (if false = true then -(m : Int) else (m : Int)) 0 = D := by rw [← hD, hm]; rfl
    have hm1 : m < 18446744073709551616 := by omega
    have hmq : m ≤ 9223372036854775807 := by omega
    have HD := Lib.hid (show ∀ W, Calls Tryd.prog 21 #[.bool false, .int .u64 (m : Int)] W (RetR D W) from fun W => by rw [← hDm]; exact whole_any false m W hm1)
    subst hm
    clear hD hDm hk h0 h1
    have e0 : ¬ ((m : Int) < 0) := by omega
    go_enter Tryd.func7, Tryd.ntmps7
    go_wp2_with fail
    refine (HD.out _).mono ?_
    rintro e w2 ⟨ng', A', n', c', E, L', rfl, hR', hN, hd, hb⟩
    have hB2 := (Blk.new w 32 #[.bool false, .slice none 0 0, .int .i64 0]).next hb
    have HB2 := Lib.hid hB2
    have f0 := hB2.frozen 0
    have f1 := hB2.frozen 1
    have f2 := hB2.frozen 2
    obtain ⟨r0, r1, r2⟩ := cells3 hB2
    have HR := Lib.hid hR'
    have HN := Lib.hid hN
    have HDd := Lib.hid hd
    have HBl := Lib.hid (((Below.refl w.heap.size w).alloc (Nat.le_refl _) (.cells #[.bool false, .slice none 0 0, .int .i64 0] 32)).trans (hb.mono (by simp)))
    clear hb hB2 hR' hN hd
    go_wp2_with fail
    obtain ⟨q0, q1, q2⟩ := cells3 (Blk.store3 HB2.out (.bool ng') (.slice A' n' c') (.int .i64 E))
    exact bodyPost_ret (v := .agg #[.bool ng', .slice A' n' c', .int .i64 E]) (by simp [results, Tryd.results7, go_sem, q0, q1, q2]) rfl
      ⟨ng', A', n', c', E, L', rfl, Rd.store3 HR.out HN.out HB2.out _ _ _, HN.out, HDd.out, ((HBl.out.setCell (p := ⟨w.heap.size, 0, none⟩) (Nat.le_refl _) _).setCell (p := ⟨w.heap.size, 1, none⟩) (Nat.le_refl _) _).setCell (p := ⟨w.heap.size, 2, none⟩) (Nat.le_refl _) _⟩
end Go.Proofs.YtajcjpbfmpljkaaDoor
