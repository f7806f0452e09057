/-
The document's blocks. Conditions: at most 50 more places.
-/
import Derived.Test.YtbjopdnfjjcpoaaZPlD
set_option linter.unusedVariables false
set_option linter.unusedSimpArgs false
namespace Go.Proofs.Ytbjopdnfjjcpoaa
open Go.RowKit Go.Sort
attribute [local go_sem ↓] Go.wp_at_zero Go.wp_at_succ

theorem rblocks_bad (n size : Int) (v : Value) (w : World) (h : n < 1 ∨ 4096 < n ∨ size < 1) :
    Calls Try.prog 22 #[.int .i64 n, .int .i64 size, v] w (BlkR [] 0 w) := by
  by_cases h1 : n < 1
  · go_enter Try.func22, Try.ntmps22
    go_wp2_with fail
    go_ret
    exact ⟨none, 0, rfl, .inl rfl, Below.refl _ _⟩
  · by_cases h2 : (4096 : Int) < n
    · go_enter Try.func22, Try.ntmps22
      go_wp2_with fail
      go_ret
      exact ⟨none, 0, rfl, .inl rfl, Below.refl _ _⟩
    · have h3 : size < 1 := by omega
      go_enter Try.func22, Try.ntmps22
      go_wp2_with fail
      go_ret
      exact ⟨none, 0, rfl, .inl rfl, Below.refl _ _⟩
/-- Is it cut there, but for the more? -/
def cutA (N S k : Nat) : Bool := decide (k = N) || (decide (S ≤ N) && decide (k % S = 0))
theorem cutA_or {N S k : Nat} {l : List Int} (h1 : 1 ≤ k) (h2 : k ≤ N) : (cutA N S k || l.contains (k : Int)) = cutB N S l k := by
  unfold cutA cutB
  have : (decide (S ≤ N) && decide (k % S = 0)) = decide (k % S = 0) := by
    by_cases h : k % S = 0
    · have : S ≤ k := Nat.le_of_dvd (by omega) (Nat.dvd_of_mod_eq_zero h)
      simp [h]; omega
    · simp [h]
  rw [this]
theorem contains_take {l : List Int} {i : Nat} (h : i < l.length) (x : Int) : (l.take (i + 1)).contains x = ((l.take i).contains x || (l[i] == x)) := by
  rw [List.take_succ_eq_append_getElem h, Bool.eq_iff_iff]
  simp only [List.contains_iff_mem, List.mem_append, List.mem_singleton, Bool.or_eq_true, beq_iff_eq]
  exact ⟨fun h => h.imp id Eq.symm, fun h => h.imp id Eq.symm⟩
theorem re_facts {k S : Nat} (hS : 1 ≤ S) (hk : k < 1048576) : ∃ q : Nat, q = k % S ∧ (k : Int).tmod (S : Int) = (q : Int) ∧ (((S : Int) == 0) = false ∧ (S == 0) = false ∧ ¬ S = 0 ∧ ¬ (S : Int) = 0) ∧ IntKind.i64.wrap (q : Int) = (q : Int) := by
  have hq : k % S < 1048576 := Nat.lt_of_le_of_lt (Nat.mod_le _ _) hk
  refine ⟨k % S, rfl, ?_, ?_, wrapi (by omega) (by omega)⟩
  · rw [Int.tmod_eq_emod_of_nonneg (by omega)]; rfl
  · refine ⟨?_, ?_, ?_, ?_⟩ <;> (try simp) <;> omega
theorem cutsTo_step (N S : Nat) (l : List Int) (k : Nat) :
    prs (cutsTo N S l (k + 1)) ((cutsTo N S l (k + 1)).length - 1) = prs (cutsTo N S l k) ((cutsTo N S l k).length - 1) ++ (if cutB N S l (k + 1) = true then [.int .i64 (lastC (cutsTo N S l k)), .int .i64 (((k + 1 : Nat) : Int) - lastC (cutsTo N S l k))] else []) ∧
    lastC (cutsTo N S l (k + 1)) = if cutB N S l (k + 1) = true then ((k + 1 : Nat) : Int) else lastC (cutsTo N S l k) := by
  rw [cutsTo]
  by_cases h : cutB N S l (k + 1) = true
  · rw [if_pos h, if_pos h, if_pos h]
    exact ⟨prs_snoc (cutsTo_pos k) _, lastC_app _ _⟩
  · rw [if_neg h, if_neg h, if_neg h, List.append_nil, List.append_nil]
    exact ⟨rfl, rfl⟩

set_option maxRecDepth 100000 in
set_option maxHeartbeats 2000000 in
theorem rblocks_ok (N S : Nat) (A : Option Addr) (n c : Nat) (l : List Int) (w : World) (hN : 1 ≤ N) (hN2 : N ≤ 4096) (hS : 1 ≤ S) (hS2 : S < 9223372036854775808) (hA : Row w A (i64s l)) (hln : l.length = n) (hl : l.length ≤ 50) :
    Calls Try.prog 22 #[.int .i64 (N : Int), .int .i64 (S : Int), .slice A n c] w (BlkR (cuts N S l) ((cuts N S l).length - 1) w) := by
  obtain ⟨i0, hi, hz0, hz1, hz2⟩ := ip0
  have hn1 : ¬ (N : Int) < 1 := by omega
  have hn2 : ¬ (4096 : Int) < (N : Int) := by omega
  have hs1 : ¬ (S : Int) < 1 := by omega
  have HN := Lib.hid (And.intro hN hN2)
  have HS := Lib.hid (And.intro hS hS2)
  have HA := Lib.hid hA
  have HL := Lib.hid (And.intro hln hl)
  clear hN hN2 hS hS2 hA hln hl
  go_enter Try.func22, Try.ntmps22
  go_wp2_with fail
  clear hn1 hn2 hs1
  go_loopw [7, 8, 9] (fun out f a wr => ∃ k K : Nat, k ≤ N ∧ k + 1 = K ∧ a = .int .i64 (K : Int) ∧ f = .int .i64 (lastC (cutsTo N S l k)) ∧ wr.ownsRow w.heap.size 53 2 out ((cutsTo N S l k).length - 1) (prs (cutsTo N S l k) ((cutsTo N S l k).length - 1)) ∧ Below w.heap.size w wr) (fun _ _ a _ => N + 1 - (intOf a).toNat)
  case atStart => exact ⟨0, 1, Nat.zero_le _, rfl, rfl, by simp [cutsTo, lastC], World.ownsRow_nil _ _ _ _, Below.refl _ _⟩
  case round =>
    obtain ⟨k, K, hk, hK, rfl, rfl, hown, hbl⟩ := hrel
    have HBl := Lib.hid hbl
    have HOw := Lib.hid hown
    have HK := Lib.hid hK
    have HSt := Lib.hid (cutsTo_step N S l k)
    have HLa := Lib.hid (cutsTo_last (N := N) (S := S) (l := l) k)
    have HLe := Lib.hid (cutsTo_len (N := N) (S := S) (l := l) k)
    rw [hK] at HSt
    obtain ⟨m, hm⟩ : ∃ m, (cutsTo N S l k).length - 1 = m := ⟨_, rfl⟩
    obtain ⟨fr, hfr⟩ : ∃ fr, lastC (cutsTo N S l k) = fr := ⟨_, rfl⟩
    rw [hfr] at HSt HLa ⊢
    rw [hm] at HOw HSt
    have Hm := Lib.hid (show m ≤ 4096 by have := HLe.out; have := HN.out; omega)
    have HMm := Lib.hid hm
    clear hown hbl hK hm hfr
    by_cases hlt : K ≤ N
    · have hqc : (K : Int) ≤ (N : Int) := by omega
      obtain ⟨c0, hc0⟩ : ∃ c0, cutA N S K = c0 := ⟨_, rfl⟩
      have HC0 := Lib.hid hc0
      clear hc0
      have hK1 : K + 1 ≤ 1048576 := by have := HN.out; omega
      go_upto_region 8 with fail
      go_cut [10] (fun c9 wx => c9 = .bool c0 ∧ wx = wr)
      case first =>
        by_cases e1 : K = N
        · have e2 : c0 = true := by rw [← HC0.out]; simp [cutA, e1]
          subst e1
          go_wp2_with fail
          go_meet
          exact ⟨by rw [e2], rfl⟩
        · have e2 : ((K : Int) == (N : Int)) = false := by simp; omega
          by_cases e3 : S ≤ N
          · have e4 : (S : Int) ≤ (N : Int) := by omega
            obtain ⟨q, hq, r1, ⟨r2, r4, r5, r6⟩, r3⟩ := re_facts (k := K) (S := S) HS.out.1 (by omega)
            have e5 : ((q : Int) == 0) = c0 := by
              rw [← HC0.out, show cutA N S K = decide (K % S = 0) by simp [cutA, e1, e3], ← hq]
              by_cases h0 : q = 0 <;> simp [h0]
            clear hq
            go_wp2_with fail
            go_meet
            exact ⟨rfl, rfl⟩
          · have e4 : ¬ (S : Int) ≤ (N : Int) := by omega
            have e5 : c0 = false := by rw [← HC0.out]; simp [cutA, e1, e3]
            go_wp2_with fail
            go_meet
            exact ⟨by rw [e5], rfl⟩
      case rest =>
      obtain ⟨rfl, hw9⟩ := hcut
      have hw8 := hw9.symm
      subst hw8
      obtain ⟨W0, hW0⟩ : ∃ W0, W0 = wr := ⟨_, rfl⟩
      subst hW0
      go_wp2_with fail
      go_loopw [10, 11] (fun cv iv w2 => ∃ i : Nat, i ≤ n ∧ iv = .int .i64 (i : Int) ∧ cv = .bool (c0 || (l.take i).contains (K : Int)) ∧ w2 = W0) (fun _ iv _ => n - (intOf iv).toNat)
      case atStart => exact ⟨0, Nat.zero_le _, rfl, by simp, rfl⟩
      case round =>
        obtain ⟨i, hin, rfl, rfl, hww⟩ := hrel
        have hww2 := hww.symm
        subst hww2
        obtain ⟨b, hb⟩ : ∃ b, (c0 || (l.take i).contains (K : Int)) = b := ⟨_, rfl⟩
        rw [hb]
        have HBb := Lib.hid hb
        clear hb
        by_cases hlk : i < n
        · have hkc : (i : Int) < (n : Int) := by omega
          have hil : i < l.length := by rw [HL.out.1]; exact hlk
          obtain ⟨bb, x, rfl, _, hcell0⟩ := HA.out.at_ (i64s_get l _ hil)
          have hcell := cell_below hcell0 HBl.out
          clear hcell0
          have HT := Lib.hid (contains_take hil (K : Int))
          have hi1 : i + 1 ≤ 1048576 := by have := HL.out; omega
          generalize hzv : l[i] = z at *
          clear hzv hil
          cases b
          · have HT2 := Lib.hid (show (c0 || (l.take (i + 1)).contains (K : Int)) = (z == (K : Int)) by rw [HT.out, ← Bool.or_assoc, HBb.out]; rfl)
            go_wp2_with fail
            go_roundw
            case rel => exact ⟨i + 1, by omega, by go_num, (by rw [HT2.out]), trivial⟩
            case measure => simp [intOf]; omega
          · have HT2 := Lib.hid (show (c0 || (l.take (i + 1)).contains (K : Int)) = true by rw [HT.out, ← Bool.or_assoc, HBb.out]; rfl)
            go_wp2_with fail
            go_roundw
            case rel => exact ⟨i + 1, by omega, by go_num, (by rw [HT2.out]), trivial⟩
            case measure => simp [intOf]; omega
        · obtain rfl : i = n := by omega
          have hkc : ¬ (i : Int) < (i : Int) := by omega
          have hcB : cutB N S l K = b := by
            rw [← cutA_or (by have := HK.out; omega) hlt, HC0.out, ← HBb.out, ← HL.out.1, List.take_length]
          rw [hcB] at HSt
          clear hcB
          have hK2 : K ≤ N := hlt
          cases b
          · simp only [if_neg Bool.false_ne_true, List.append_nil] at HSt
            have HS2 := Lib.hid HSt.out.1
            have HF2 := Lib.hid HSt.out.2
            have HM2 := Lib.hid (show (cutsTo N S l K).length - 1 = m from by
              have := congrArg List.length HS2.out
              rw [prs_length, prs_length] at this
              omega)
            clear HSt
            go_wp2_with fail
            go_roundw
            case rel => exact ⟨K, K + 1, hK2, rfl, by go_num, by rw [HF2.out], by rw [HS2.out, HM2.out]; exact HOw.out, HBl.out⟩
            case measure => simp [intOf]; omega
          · simp only [if_true] at HSt
            have HS2 := Lib.hid HSt.out.1
            have HF2 := Lib.hid HSt.out.2
            have HM2 := Lib.hid (show (cutsTo N S l K).length - 1 = m + 1 from by
              have := congrArg List.length HS2.out
              rw [List.length_append, prs_length, prs_length] at this
              simp at this
              omega)
            clear HSt
            obtain ⟨dd, hdd⟩ : ∃ dd, (K : Int) - fr = dd := ⟨_, rfl⟩
            have hsub : IntKind.i64.wrap ((K : Int) - fr) = dd := by
              have := HLa.out
              have := HK.out
              rw [wrapi (by omega) (by omega), hdd]
            rw [hdd] at HS2
            clear hdd
            have HNw := Lib.hid (Blk.new W0 53 #[.int .i64 fr, .int .i64 dd])
            have HOw2 := Lib.hid (HOw.out.alloc (.cells #[.int .i64 fr, .int .i64 dd] 53))
            have HSz := Lib.hid HBl.out.size
            have hm5 := Hm.out
            go_wp2_with (at_builtin; refine wpList_append_own _ rfl _ _ 50 rfl w.heap.size 53 i0 _ 2 16 Try.underlying50 hi hz0 hz1 hz2 rfl (by decide) _ m _ rfl HOw2.out ⟨W0.heap.size, 0, none⟩ 1 1 [.int .i64 fr, .int .i64 dd] rfl rfl (one_pair HNw.out) (by intro u hu; simp at hu; rcases hu with rfl | rfl <;> rfl) ?c3 ?c4 ?c5 ?_)
            case c3 => unfold maxLen; omega
            case c4 => omega
            case c5 => (try simp); have := HSz.out; omega
            intro v' w' hown' hgrow _
            have HOw3 := Lib.hid hown'
            have HBl3 := Lib.hid ((HBl.out.alloc HBl.out.size (.cells #[.int .i64 fr, .int .i64 dd] 53)).grown hgrow (by simp; have := HSz.out; omega) (fun k hk => by have := (HOw2.out.lt k hk).1; omega))
            clear hown' hgrow
            go_wp2_with fail
            go_roundw
            case rel => exact ⟨K, K + 1, hK2, rfl, by go_num, by rw [HF2.out], by rw [HS2.out, HM2.out]; exact HOw3.out, HBl3.out⟩
            case measure => simp [intOf]; omega
    · have e9 : k = N := by have := HK.out; omega
      subst e9
      have hqc : ¬ (K : Int) ≤ (k : Int) := by omega
      obtain ⟨A9, c9, rfl, hrow⟩ := ownsRow_row HOw.out
      have HRw := Lib.hid hrow
      clear hrow
      go_wp2_with fail
      go_ret
      have e8 : (cuts k S l).length - 1 = m := HMm.out
      rw [e8]
      exact ⟨A9, c9, rfl, HRw.out, HBl.out⟩
end Go.Proofs.Ytbjopdnfjjcpoaa
