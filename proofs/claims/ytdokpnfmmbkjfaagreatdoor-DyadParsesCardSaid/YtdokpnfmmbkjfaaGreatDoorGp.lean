/-
The program's numbers as values: what holds a dyadic number. Conditions: as each says.
-/
import Derived.Test.YtdokpnfmmbkjfaaGreatDoorGi
import Derived.Test.YtdokpnfmmbkjfaaGreatDoorGn
import Derived.Test.YtdokpnfmmbkjfaaGreatDoorZRdW
import Derived.Test.YtdokpnfmmbkjfaaGreatDoorGu
import Derived.Test.YtdokpnfmmbkjfaaGreatDoorGe
set_option linter.unusedVariables false
set_option linter.unusedSimpArgs false
namespace Go.Proofs.YtdokpnfmmbkjfaaGreatDoor
open Go.RowKit
attribute [local go_sem ↓] Go.wp_at_zero Go.wp_at_succ

/-- The value holds the number, as the program keeps it. -/
def PV (W : World) (v : Value) (d : Dyadic) : Prop := ∃ (A : Option Addr) (n c : Nat) (A' : Option Addr) (n' c' : Nat), v = .agg #[.bool (ng (mant d)), .slice A n c, .bool (ng (expo d)), .slice A' n' c'] ∧ Dr W A n c A' n' c' d
theorem PV.below {W W' : World} {v : Value} {d : Dyadic} (h : PV W v d) (hb : Below W.heap.size W W') : PV W' v d := by
  obtain ⟨A, n, c, A', n', c', h1, h2⟩ := h
  exact ⟨A, n, c, A', n', c', h1, h2.below hb⟩
theorem PV.drew {W : World} {v : Value} {d : Dyadic} (h : PV W v d) : PV W.drew v d := h
/-- The call returned a value that holds the number. -/
def RetP (d : Dyadic) (w : World) (e : Ending) (w' : World) : Prop := ∃ v, e = .returned v ∧ PV w' v d ∧ Below w.heap.size w w'
theorem RetD.retp {d : Dyadic} {w : World} {e : Ending} {w' : World} (h : RetD d w e w') : RetP d w e w' := by
  obtain ⟨A, n, c, A', n', c', h1, h2, h3⟩ := h
  exact ⟨_, h1, ⟨A, n, c, A', n', c', rfl, h2⟩, h3⟩
/-- The call returned a value that holds the number, and another number. -/
def RetPT (d : Dyadic) (r : Int) (w : World) (e : Ending) (w' : World) : Prop := ∃ v, e = .returned (.tuple #[v, .int .i64 r]) ∧ PV w' v d ∧ Below w.heap.size w w'
theorem RetT.retp {d : Dyadic} {r : Int} {w : World} {e : Ending} {w' : World} (h : RetT d r w e w') : RetPT d r w e w' := by
  obtain ⟨A, n, c, A', n', c', h1, h2, h3⟩ := h
  exact ⟨_, h1, ⟨A, n, c, A', n', c', rfl, h2⟩, h3⟩
theorem PV.zero (W : World) (A A' : Option Addr) (c c' : Nat) : PV W (.agg #[.bool false, .slice A 0 c, .bool false, .slice A' 0 c']) 0 :=
  ⟨A, 0, c, A', 0, c', rfl, ⟨Wh.zero _ _ _, Wh.zero _ _ _⟩⟩
/-- The number isn't too great for the program's calls. -/
def Fitp (d : Dyadic) : Prop := wl (mant d) ≤ 137438953472 ∧ (expo d).natAbs ≤ 1000000000000000000
theorem two_q (k : Nat) : 2 ^ (2 * k) ≤ Q ^ k := by
  rw [Nat.pow_mul]
  exact Nat.pow_le_pow_left (by unfold Q; omega) k
theorem Sz.fitp {k : Nat} {d : Dyadic} (h : Sz k d) (hk : k ≤ 134217720) : Fitp d := by
  obtain ⟨m, rfl, hm⟩ := h
  by_cases h0 : m = 0
  · subst h0
    rw [dy_zero]
    exact ⟨by rw [mant_zero]; exact Nat.le_trans (Nat.le_of_eq ((wl_zero 0).2 rfl)) (Nat.zero_le _), by rw [expo_zero]; decide⟩
  · obtain ⟨y, v, hz, hy, ha, hb, hc⟩ := odd_part m h0
    obtain ⟨e1, e2⟩ := dy_parts (e := -(k : Int)) hz hy
    have hp : 1 ≤ 2 ^ v := Nat.one_le_two_pow
    have hy1 : 1 ≤ y.natAbs := by omega
    have hle : y.natAbs ≤ m.natAbs := by rw [ha]; exact Nat.le_mul_of_pos_right _ hp
    have hle2 : 2 ^ v ≤ m.natAbs := by rw [ha]; exact Nat.le_mul_of_pos_left _ hy1
    have hv : v < 2 * k := by
      rcases Nat.lt_or_ge v (2 * k) with h | h
      · exact h
      · have := Nat.pow_le_pow_right (show 0 < 2 by omega) h; omega
    refine ⟨?_, by rw [e2]; omega⟩
    rw [e1]
    refine Nat.le_trans ((wl_le y k).2 ?_) (by omega)
    have := two_q k
    omega
theorem pint_v (k : Int) (w : World) (h0 : -9223372036854775808 ≤ k) (h1 : k ≤ 9223372036854775807) (hg : Glob w) :
    Calls Tryz.prog 54 #[.int .i64 k] w (RetP (dy k 0) w) := (int_any k w h0 h1 hg).mono fun e w' h => h.retp
theorem pof_v (b : Nat) (w : World) (hb : b < 18446744073709551616) (hg : Glob w) :
    Calls Tryz.prog 33 #[.float .f64 b] w (RetPT (if Fl.fin b then fdy b else 0) (if Fl.fin b then 0 else 8) w) := (of_any b w hb hg).mono fun e w' h => h.retp
theorem pshift_v {v : Value} {d : Dyadic} {w : World} (k : Int) (h : PV w v d) (hf : Fitp d) (hg : Glob w) :
    Calls Tryz.prog 22 #[v, .int .i64 k] w (RetP (d * dy 1 (far k)) w) := by
  obtain ⟨A, n, c, A', n', c', rfl, h1, h2⟩ := h
  have := shift_any A n c (mant d) A' n' c' (expo d) k w h1 h2 (by rw [h1.1]; exact hf.1) hf.2 hg
  rw [← dy_one, dy_mant] at this
  exact this.mono fun e w' h => h.retp
theorem ptext_v {v : Value} {d : Dyadic} {w : World} (h : PV w v d) (hf : Fitp d) (hg : Glob w) :
    Calls Tryz.prog 12 #[v] w fun e w' => e = .returned (.string ⟨(txt d).toArray⟩) ∧ Below w.heap.size w w' := by
  obtain ⟨A, n, c, A', n', c', rfl, h1, h2⟩ := h
  exact dtext_any A n c (mant d) A' n' c' (expo d) w h1 h2 (by rw [h1.1]; exact hf.1) (Nat.lt_of_le_of_lt hf.2 (by decide)) d rfl rfl hg
theorem rtext_v {v : Value} {d : Dyadic} {w : World} {k : Nat} (h : DV w v d) (hs : Sz k d) (hk : k ≤ 8388600) :
    Calls Tryz.prog 13 #[v] w fun e w' => e = .returned (.string ⟨(txt d).toArray⟩) ∧ Below w.heap.size w w' := by
  obtain ⟨neg, A, n, c, E, l, rfl, h2, h3, rfl, h5, h6⟩ := h.parts (hs.fit (by omega))
  refine rtext_any neg A n c l E w h2 ?_ (by omega)
  obtain ⟨m, hm, hb⟩ := hs
  obtain ⟨r, hr⟩ : ∃ r : Nat, (r : Int) = (-(k : Int)) % 16 := ⟨((-(k : Int)) % 16).toNat, by omega⟩
  have e : rdy neg l E = dy (m * 2 ^ r) (16 * ((-(k : Int)) / 16)) := by rw [hm, dy_pow]; congr 1; omega
  have hb2 : (m * 2 ^ r).natAbs < 65536 ^ (2 * k + 1) := by
    rw [Int.natAbs_mul, Int.natAbs_pow, pow16]
    have h1 : 2 ^ r ≤ 2 ^ 16 := Nat.pow_le_pow_right (by omega) (by omega)
    have h2 : m.natAbs * 2 ^ r < 2 ^ (2 * k) * 2 ^ 16 := Nat.mul_lt_mul_of_lt_of_le hb h1 (Nat.pow_pos (by omega))
    rw [← Nat.pow_add] at h2
    exact Nat.lt_of_lt_of_le h2 (Nat.pow_le_pow_right (by omega) (by omega))
  rw [h2.1]
  rcases neat_in h3 h2.2.2.2.1 e hb2 with h7 | ⟨h7, h8⟩
  · subst h7; simp
  · omega
end Go.Proofs.YtdokpnfmmbkjfaaGreatDoor
/-
DyadInts, walked. Conditions: the library's tables are as its text lays them.
-/
set_option linter.unusedVariables false
set_option linter.unusedSimpArgs false
set_option linter.unnecessarySimpa false
namespace Go.Proofs.YtdokpnfmmbkjfaaGreatDoor
open Go.RowKit
attribute [local go_sem ↓] Go.wp_at_zero Go.wp_at_succ

theorem awake_dy : fdy 4604930618986332160 = dy 3 (-2) := by
  rw [← fdy_digits (b := 4604930618986332160) (by decide +kernel) (by decide +kernel)]
  rw [show fdm 4604930618986332160 = 3 * 2 ^ 51 by decide +kernel, show Fl.de 4604930618986332160 = -53 by decide +kernel, dy_pow]
  rfl
theorem awake_txt : txt (dy 3 (-2)) = [51, 112, 45, 50] := by
  unfold txt
  rw [mant_dy 3 (-2) (by decide), expo_dy 3 (-2) (by decide)]
  decide +kernel
theorem sz_three : Sz 4 (dy 3 (-2)) := ⟨12, by rw [show dy 3 (-2) = dy (3 * 2 ^ 2) (-4) by rw [dy_pow]; rfl]; rfl, by decide⟩
theorem awakeD_any (w : World) (hg : Glob w) :
    Calls Tryz.prog 7 #[] w fun e w' => e = .returned (.bool true) ∧ Below w.heap.size w w' := by
  have HG := Lib.hid hg
  have HOf := fun W (hg : Glob W) => pof_v 4604930618986332160 W (by decide) hg
  rw [if_pos (by decide +kernel), if_pos (by decide +kernel), awake_dy] at HOf
  have HO := Lib.hid HOf
  have HT := Lib.hid (fun W v (h : PV W v (dy 3 (-2))) (hg : Glob W) => ptext_v h (sz_three.fitp (by omega)) hg)
  rw [awake_txt] at HT
  clear hg HOf
  go_enter Tryz.func7, Tryz.ntmps7
  go_wp2_with fail
  refine (HO.out _ HG.out).mono ?_
  rintro e w1 ⟨v, rfl, ⟨A, n, c, A', n', c', rfl, hd⟩, hb⟩
  have HB1 := Lib.hid hb
  have HD1 := Lib.hid hd
  have HG1 := Lib.hid (HG.out.below hb)
  clear hd hb
  go_wp2_with fail
  refine (HT.out _ _ ⟨A, n, c, A', n', c', rfl, HD1.out.below below_one⟩ (HG1.out.below below_one)).mono ?_
  rintro e w2 ⟨rfl, hb⟩
  have HB2 := Lib.hid (below_nx HB1.out (below_nx below_one hb))
  clear hb
  go_wp2_with fail
  go_ret
  exact ⟨rfl, HB2.out⟩
theorem far_le (k : Int) : (far k).natAbs ≤ 1048576 := by
  unfold far
  split
  · decide
  · split
    · decide
    · omega

end Go.Proofs.YtdokpnfmmbkjfaaGreatDoor
