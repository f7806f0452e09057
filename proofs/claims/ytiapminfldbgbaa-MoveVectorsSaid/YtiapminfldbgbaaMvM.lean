/-
The document's Pair. Conditions: as each says.
-/
import Derived.Test.YtiapminfldbgbaaMvL
set_option linter.unusedVariables false
namespace Go.Proofs.Ytiapminfldbgbaa
open Go.RowKit
attribute [local go_sem ↓] Go.wp_at_zero Go.wp_at_succ

theorem wrap4 {o o' a a' P Q : Nat} (hP : P < 1048576) (hQ : Q < 1048576) (h : o + a = P) (h' : o' + a' = Q) : wrap64 (a : Int) = (a : Int) ∧ wrap64 (a' : Int) = (a' : Int) ∧ wrap64 (P : Int) = (P : Int) ∧ wrap64 (Q : Int) = (Q : Int) :=
  ⟨wrap_id (by unfold I64; omega), wrap_id (by unfold I64; omega), wrap_id (by unfold I64; omega), wrap_id (by unfold I64; omega)⟩
set_option maxHeartbeats 1000000 in
theorem rpair_any (A A' : Option Addr) (n c : Nat) (off k inc : Int) (n' c' : Nat) (off' k' inc' : Int) (one : Bool) (w : World) (hn : n < 1048576) (hn' : n' < 1048576)
    (ho : I64 off) (hk : I64 k) (hi : I64 inc) (ho' : I64 off') (hk' : I64 k') (hi' : I64 inc') :
    Calls Try.prog 10 #[vec A n c off k inc, vec A' n' c' off' k' inc', .bool one] w fun e w' => e = .returned (.int .i64 (pairI one n off k inc n' off' k' inc')) ∧ Below w.heap.size w w' := by
  have HR := Lib.hid (fun W => rright_any A n c off k inc W (by omega) ho hk hi)
  have HR' := Lib.hid (fun W => rright_any A' n' c' off' k' inc' W (by omega) ho' hk' hi')
  have HNat := Lib.hid (fun (h : vecB n off k inc = true) => vec_nat h)
  have HNat' := Lib.hid (fun (h : vecB n' off' k' inc' = true) => vec_nat h)
  obtain ⟨p, hp⟩ : ∃ p, pairI one n off k inc n' off' k' inc' = p := ⟨_, rfl⟩
  have HP := Lib.hid (show p = if vecB n off k inc then (if vecB n' off' k' inc' then (if k = k' then (if one && metB off.toNat inc.toNat off'.toNat inc'.toNat k.toNat then 2 else 0) else 3) else 1) else 1 by rw [← hp]; rfl)
  rw [hp]
  clear hp
  generalize vecB n off k inc = x at *
  generalize vecB n' off' k' inc' = x' at *
  have HI := Lib.hid (show (I64 off ∧ I64 k ∧ I64 inc) ∧ I64 off' ∧ I64 k' ∧ I64 inc' from ⟨⟨ho, hk, hi⟩, ho', hk', hi'⟩)
  have Hn := Lib.hid hn
  have Hn' := Lib.hid hn'
  clear hn hn' ho hk hi ho' hk' hi'
  unfold vec at *
  go_enter Try.func10, Try.ntmps10
  have HZ0 := Lib.hid ((Blk.new w 24 #[.slice A n c, .int .i64 off, .int .i64 k, .int .i64 inc]).alloc (.cells #[.slice A' n' c', .int .i64 off', .int .i64 k', .int .i64 inc'] 24))
  have HZ1 := Lib.hid (Blk.new_ (w.alloc (.cells #[.slice A n c, .int .i64 off, .int .i64 k, .int .i64 inc] 24)) 24 #[.slice A' n' c', .int .i64 off', .int .i64 k', .int .i64 inc'] (w.heap.size + 1) (by simp))
  have HBl := Lib.hid (((Below.refl w.heap.size w).alloc (Nat.le_refl _) (.cells #[.slice A n c, .int .i64 off, .int .i64 k, .int .i64 inc] 24)).alloc (by simp) (.cells #[.slice A' n' c', .int .i64 off', .int .i64 k', .int .i64 inc'] 24))
  go_wp2_with fail
  refine (HR.out _).mono ?_
  rintro e w1 ⟨rfl, hb1⟩
  have HB1 := Lib.hid (below_nx HBl.out hb1)
  have HZ2 := Lib.hid (HZ0.out.nxt hb1)
  have HZ3 := Lib.hid (HZ1.out.nxt hb1)
  clear hb1
  obtain ⟨c0, c1, c2, c3⟩ := cells4w HZ2.out
  obtain ⟨d0, d1, d2, d3⟩ := cells4w HZ3.out
  cases x
  · have hp := HP.out
    simp only [Bool.false_eq_true, if_false] at hp
    subst hp
    go_wp2_with fail
    go_ret
    exact ⟨rfl, HB1.out⟩
  go_wp2_with fail
  refine (HR'.out _).mono ?_
  rintro e w2 ⟨rfl, hb1⟩
  have HB2 := Lib.hid (below_nx HB1.out hb1)
  have HZ4 := Lib.hid (HZ2.out.nxt hb1)
  have HZ5 := Lib.hid (HZ3.out.nxt hb1)
  clear hb1 c0 c1 c2 c3 d0 d1 d2 d3
  obtain ⟨c0, c1, c2, c3⟩ := cells4w HZ4.out
  obtain ⟨d0, d1, d2, d3⟩ := cells4w HZ5.out
  cases x'
  · have hp := HP.out
    simp only [Bool.false_eq_true, if_false, if_true] at hp
    subst hp
    go_wp2_with fail
    go_ret
    exact ⟨rfl, HB2.out⟩
  by_cases hkk : k = k'
  · have hp := HP.out
    simp only [if_true, if_pos hkk] at hp
    subst hkk
    have hkk2 : (k == k) = true := by simp
    obtain ⟨o, K, i, rfl, rfl, rfl, h1, h2⟩ := HNat.out (by trivial)
    obtain ⟨o', K', i', rfl, e2, rfl, h1', h2'⟩ := HNat'.out (by trivial)
    obtain rfl : K = K' := by omega
    simp only [Int.toNat_natCast] at hp
    have HP2 := Lib.hid hp
    have HA := Lib.hid (show (K = 0 ∨ o + (K - 1) * i < 1048576) ∧ (K = 0 ∨ o' + (K - 1) * i' < 1048576) by have := Hn.out; have := Hn'.out; omega)
    have hKb : K < 9223372036854775808 := by have := HI.out.1.2.1; unfold I64 at this; omega
    clear hp HP HNat HNat' HR HR' h1 h2 h1' h2' e2
    cases one
    · have hp := HP2.out
      simp only [Bool.false_and, Bool.false_eq_true, if_false] at hp
      subst hp
      go_wp2_with fail
      go_loop [7] (fun a => a = .int .i64 0) (fun a => 0)
      case atStart => rfl
      case round =>
        subst hrel
        go_wp2_with fail
        go_ret
        exact ⟨rfl, HB2.out⟩
    · simp only [Bool.true_and] at HP2
      go_wp2_with fail
      go_loop [7] (fun a => ∃ q : Nat, q ≤ K ∧ a = .int .i64 q ∧ ∀ x, x < q → ∀ j, j < K → o + x * i ≠ o' + j * i') (fun a => K - (intOf a).toNat)
      case atStart => exact ⟨0, Nat.zero_le _, rfl, fun x hx => by omega⟩
      case round =>
        obtain ⟨q, hq, rfl, hno⟩ := hrel
        have HNo := Lib.hid hno
        clear hno
        by_cases hlt : q < K
        · go_wp2_with fail
          go_loop [8] (fun a => ∃ t : Nat, t ≤ K ∧ a = .int .i64 t ∧ ∀ j, j < t → o + q * i ≠ o' + j * i') (fun a => K - (intOf a).toNat)
          case atStart => exact ⟨0, Nat.zero_le _, rfl, fun x hx => by omega⟩
          case round =>
            obtain ⟨t, ht, rfl, hno2⟩ := hrel
            have HNo2 := Lib.hid hno2
            clear hno2
            by_cases hlt2 : t < K
            · have hPb : o + q * i < 1048576 := by
                rcases HA.out.1 with h | h
                · omega
                · exact place_lt h hlt
              have hQb : o' + t * i' < 1048576 := by
                rcases HA.out.2 with h | h
                · omega
                · exact place_lt h hlt2
              obtain ⟨a, ha⟩ : ∃ a, q * i = a := ⟨_, rfl⟩
              obtain ⟨a', ha'⟩ : ∃ a', t * i' = a' := ⟨_, rfl⟩
              obtain ⟨P, hP⟩ : ∃ P, o + q * i = P := ⟨_, rfl⟩
              obtain ⟨Q, hQ⟩ : ∃ Q, o' + t * i' = Q := ⟨_, rfl⟩
              have e1 : ((q : Int) * (i : Int)) = (a : Int) := by rw [← ha]; simp
              have e2 : ((t : Int) * (i' : Int)) = (a' : Int) := by rw [← ha']; simp
              have u3 : (o : Int) + (a : Int) = (P : Int) := by rw [← hP, ha]; simp
              have u4 : (o' : Int) + (a' : Int) = (Q : Int) := by rw [← hQ, ha']; simp
              have HPd := Lib.hid hP
              have HQd := Lib.hid hQ
              rw [hP] at hPb
              rw [hQ] at hQb
              have HW := Lib.hid (wrap4 (o := o) (o' := o') (a := a) (a' := a') (P := P) (Q := Q) hPb hQb (by rw [← ha, hP]) (by rw [← ha', hQ]))
              clear ha ha' hP hQ hPb hQb
              obtain ⟨u1, u2, u5, u6⟩ := HW.out
              by_cases hPQ : P = Q
              · have hp := HP2.out
                rw [metB_true.2 ⟨q, hlt, t, hlt2, by rw [HPd.out, HQd.out, hPQ]⟩, if_pos rfl] at hp
                subst hp
                have hpq : ((P : Int) == (Q : Int)) = true := by simp [hPQ]
                clear hPQ
                go_wp2_with fail
                go_ret
                exact ⟨rfl, HB2.out⟩
              · have hpq : ((P : Int) == (Q : Int)) = false := by rw [beq_eq_false_iff_ne]; exact fun e => hPQ (by exact_mod_cast e)
                have HPQ := Lib.hid hPQ
                clear hPQ
                go_wp2_with fail
                go_round
                case rel => exact ⟨t + 1, by omega, by go_num, fun j hj => by
                  by_cases e : j = t
                  · subst e; rw [HPd.out, HQd.out]; exact HPQ.out
                  · exact HNo2.out j (by omega)⟩
                case measure => simp [intOf]; omega
            · obtain rfl : t = K := by omega
              go_wp2_with fail
              go_round
              case rel => exact ⟨q + 1, by omega, by go_num, fun x hx j hj => by
                by_cases e : x = q
                · subst e; exact HNo2.out j hj
                · exact HNo.out x (by omega) j hj⟩
              case measure => simp [intOf]; omega
        · obtain rfl : q = K := by omega
          have hp := HP2.out
          rw [metB_false.2 HNo.out] at hp
          simp only [Bool.false_eq_true, if_false] at hp
          subst hp
          go_wp2_with fail
          go_ret
          exact ⟨rfl, HB2.out⟩
  · have hp := HP.out
    simp only [if_true, if_neg hkk] at hp
    subst hp
    have hkk2 : (k == k') = false := by simp [hkk]
    go_wp2_with fail
    go_ret
    exact ⟨rfl, HB2.out⟩
end Go.Proofs.Ytiapminfldbgbaa
