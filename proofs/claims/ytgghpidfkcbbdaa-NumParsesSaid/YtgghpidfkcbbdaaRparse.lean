/-
What the document's Parse comes to. Conditions: the text's length is a length.
-/
import Derived.Test.YtgghpidfkcbbdaaParse
set_option linter.unusedVariables false
namespace Go.Proofs.Ytgghpidfkcbbdaa
open Go.RowKit

set_option maxHeartbeats 400000 in
theorem rparse_any (s : ByteArray) (w : World) (hs : s.size ≤ maxLen) :
    Calls Try.prog 25 #[.string s] w fun e w' => e = .returned (.tuple #[.float .f64 (parseB s.data.toList), .int .i64 (parseE s.data.toList)]) ∧ w = w' := by
  unfold maxLen at hs
  have hl : s.data.toList.length = s.size := by simp
  by_cases h16 : s.size = 16
  · have hne : ((s.size : Int) != 16) = false := by simp [h16]
    have H16 := Lib.hid h16
    have HLen := Lib.hid hl
    have hle : s.size ≤ 16 := by omega
    have hge : 16 ≤ s.size := by omega
    clear h16 hl
    go_enter Try.func25, Try.ntmps25
    go_wp2
    go_loop [4, 5] (fun x i => ∃ k B : Nat, k ≤ 16 ∧ i = .int .i64 k ∧ x = .int .u64 B ∧ B < 16 ^ k ∧ pv (s.data.toList.take k) = some B) (fun _ i => 16 - (intOf i).toNat)
    case atStart => exact ⟨0, 0, by omega, rfl, rfl, by simp, by simp [pv]⟩
    case round =>
      obtain ⟨k, B, hk, rfl, rfl, hB, hp⟩ := hrel
      by_cases hlt : k < 16
      · have hks : k < s.size := by omega
        have hst := parse_step hks hp
        have hpw := pow16 k hlt
        have hb60 : B * 16 + 16 ≤ 18446744073709551616 := by
          have := Nat.mul_le_mul_right 16 hB; simp at this; omega
        have HST := Lib.hid hst
        have HB := Lib.hid hB
        have hcb : s[k].toNat < 256 := UInt8.toNat_lt _
        clear hp hst hpw hB
        rcases byte_ways s[k].toNat with ⟨⟨d, hd, he⟩, t1, t2⟩ | ⟨⟨d, hd, he⟩, t1, t2, t3, t4⟩ | ⟨hd, t1, t3⟩ | ⟨hd, t1, t2, t3⟩ | ⟨hd, t1, t2, t3, t4⟩
        case inl | inr.inl =>
          have hd16 := hv_lt hd
          have hst := HST.out
          rw [hd] at hst
          have HN := Lib.hid hst
          have HE := Lib.hid he
          clear hst hd HST he
          go_wp2_with fail
          go_round
          case rel =>
            refine ⟨k + 1, B * 16 + d, by omega, by go_num, ?_, ?_, HN.out⟩
            · refine congrArg (Value.int IntKind.u64) ?_
              have := HE.out
              simp only [IntKind.wrap_u64]
              omega
            · rw [Nat.pow_succ]
              have := Nat.mul_le_mul_right 16 HB.out
              simp at this; omega
          case measure => simp [intOf]; omega
        all_goals
          have hst := HST.out
          rw [hd] at hst
          have HN := Lib.hid (pv_cut hst)
          clear hst hd HST HB
          go_wp2_with fail
          go_ret2
          refine ⟨ret2_fe ?_ ?_, rfl⟩
          · unfold parseB; rw [HN.out]; simp
          · unfold parseE; rw [HN.out]; simp
      · have hpf : pv s.data.toList = some B := by
          rw [← hp, pv_full s k (by rw [HLen.out, H16.out]; omega)]
        have HP := Lib.hid hpf
        have hk16 : k = 16 := by omega
        have hB64 : B < 18446744073709551616 := by rw [hk16] at hB; simpa using hB
        clear hp hpf hB hk16
        go_wp2_with fail
        go_ret2
        refine ⟨ret2_fe ?_ ?_, rfl⟩
        · unfold parseB; rw [HP.out, HLen.out, H16.out]; simp
        · unfold parseE; rw [HP.out, HLen.out, H16.out]; simp
  · have hne : ((s.size : Int) != 16) = true := by simp; omega
    have hb : parseB s.data.toList = 0 := by unfold parseB; rw [if_neg (by omega)]
    have he : parseE s.data.toList = 5 := by unfold parseE; rw [if_neg (by omega)]
    rw [hb, he]
    clear hb he h16 hl
    go_enter Try.func25, Try.ntmps25
    go_wp2
    go_ret2
    exact ⟨rfl, rfl⟩
end Go.Proofs.Ytgghpidfkcbbdaa
