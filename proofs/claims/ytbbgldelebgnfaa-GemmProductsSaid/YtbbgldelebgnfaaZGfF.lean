/-
GemmProducts: matrices that are too great, aren't right, don't fit. Conditions: as each says.
-/
import Derived.Test.YtbbgldelebgnfaaZGfE
import Derived.Test.YtbbgldelebgnfaaUaal
set_option linter.unusedVariables false
set_option linter.unusedSimpArgs false
set_option linter.unnecessarySimpa false
namespace Go.Proofs.Ytbbgldelebgnfaa
open Go.RowKit
attribute [local go_sem ↓] Go.wp_at_zero Go.wp_at_succ

/-- What the law wants, by the first i matrices. -/
def wantL (L : List M5) : Nat → Int
  | 0 => 0
  | i + 1 => if goodM (mL L i) then wantL L i else 1
theorem wantL_good {L : List M5} : ∀ {i : Nat}, (∀ j, j < i → goodM (mL L j) = true) → wantL L i = 0
  | 0, _ => rfl
  | i + 1, h => by
    show (if goodM (mL L i) = true then wantL L i else 1) = 0
    rw [if_pos (h i (by omega))]
    exact wantL_good fun j hj => h j (by omega)
theorem wantL_bad {L : List M5} : ∀ {i p : Nat}, p < i → goodM (mL L p) = false → wantL L i = 1
  | 0, _, h, _ => by omega
  | i + 1, p, h, hp => by
    show (if goodM (mL L i) = true then wantL L i else 1) = 1
    by_cases e : p = i
    · rw [← e, if_neg (by rw [hp]; decide)]
    · cases hg : goodM (mL L i)
      · rfl
      · rw [if_pos rfl]
        exact wantL_bad (by omega) hp
def greatM (x : M5) : Bool := greatB x.l.length x.r x.k
theorem mgreat_any (x : M5) (W : World) : Calls Try.prog 15 #[.agg #[.slice x.A x.l.length x.c, .int .i64 x.o, .int .i64 x.r, .int .i64 x.k, .int .i64 x.L]] W fun e w' => e = .returned (.bool (greatM x)) ∧ Below W.heap.size W w' := great_any x.A x.l.length x.c x.o x.r x.k x.L W
theorem mrgood_any {x : M5} {w : World} (h : x.Ok w) (W : World) : Calls Try.prog 16 #[.agg #[.slice x.A x.l.length x.c, .int .i64 x.o, .int .i64 x.r, .int .i64 x.k, .int .i64 x.L]] W fun e w' => e = .returned (.bool (goodM x)) ∧ Below W.heap.size W w' :=
  rgood_any x.A x.l.length x.c x.o x.r x.k x.L W (by have := h.lc; have := h.cb; omega) h.io h.ir h.ik h.iL

set_option maxRecDepth 100000 in
set_option maxHeartbeats 4000000 in
theorem gproducts_great (b o n c : Nat) (L : List M5) (w : World) (hM : MlC w b o n L) (hL : L.length = n) (hn6 : n ≤ 6) (hn0 : 0 < n) (hnc : n ≤ c) (hOk : ∀ i, i < n → (mL L i).Ok w) (p : Nat) (hp : p < n) (hg : ∀ i, i < p → greatM (mL L i) = false) (hgt : greatM (mL L p) = true) :
    Calls Try.prog 4 #[.slice (some ⟨b, o, none⟩) n c] w fun e w' => e = .returned (.bool true) ∧ Below w.heap.size w w' := by
  have HM := Lib.hid hM
  have HRd := Lib.hid (fun i (h : i < n) W => mrgood_any (hOk i h) W)
  have g6 : decide ((6 : Int) < (n : Int)) = false := decide_eq_false (by omega)
  have g6' : decide (6 < n) = false := decide_eq_false (by omega)
  have HNg := Lib.hid hg
  have HGt := Lib.hid hgt
  have Hpn := Lib.hid hp
  clear hM hL hn0 hnc hOk hg hgt hp
  go_enter Try.func4, Try.ntmps4
  go_wp2_with fail
  refine (awake11_any _).mono ?_
  rintro e w1 ⟨rfl, hb⟩
  have HB1 := Lib.hid hb
  clear hb
  go_wp2_with fail
  go_loopw [3, 4] (fun v a wr => ∃ q : Nat, q ≤ p ∧ v = .int .i64 (wantL L q) ∧ a = .int .i64 q ∧ Hid (Below w.heap.size w wr)) (fun _ a _ => p + 1 - (intOf a).toNat)
  case atStart => exact ⟨0, Nat.zero_le _, rfl, rfl, HB1⟩
  case round =>
    clear HB1
    obtain ⟨q, hq, rfl, rfl, HBr⟩ := hrel
    by_cases hlt : q < p
    · skip
      have hqn : q < n := by have := Hpn.out; omega
      have hqi : (q : Int) < (n : Int) := by omega
      have hq1 : q + 1 ≤ 1048576 := by omega
      have HGq0 := fun W => mgreat_any (mL L q) W
      have HRq0 := fun W => HRd.out q hqn W
      rw [HNg.out q hlt] at HGq0
      obtain ⟨c0, c1, c2, c3, c4⟩ := HM.out.below HBr.out q hqn
      have hw1 : wantL L (q + 1) = if goodM (mL L q) then wantL L q else 1 := rfl
      generalize goodM (mL L q) = gd at hw1 HRq0
      generalize wantL L q = wq at *
      obtain ⟨wq1, hwq1⟩ : ∃ z, wantL L (q + 1) = z := ⟨_, rfl⟩
      rw [hwq1] at hw1
      have HWD := Lib.hid hwq1
      clear hwq1
      have HGq := Lib.hid HGq0
      have HRq := Lib.hid HRq0
      have HW1 := Lib.hid hw1
      clear HGq0 HRq0 hw1
      go_wp2_with fail
      refine (HGq.out _).mono ?_
      rintro e w2 ⟨rfl, hb⟩
      have HB2 := Lib.hid (below_nx HBr.out hb)
      have HC2 := Lib.hid (And.intro (cell_below c0 hb) (And.intro (cell_below c1 hb) (And.intro (cell_below c2 hb) (And.intro (cell_below c3 hb) (cell_below c4 hb)))))
      clear hb c0 c1 c2 c3 c4
      obtain ⟨c0, c1, c2, c3, c4⟩ := HC2.out
      go_wp2_with fail
      refine (HRq.out _).mono ?_
      rintro e w3 ⟨rfl, hb⟩
      have HB3 := Lib.hid (below_nx HB2.out hb)
      clear hb c0 c1 c2 c3 c4
      cases gd
      · have hw2 : (1 : Int) = wq1 := by have := HW1.out; simpa using this.symm
        clear HW1
        go_wp2_with fail
        go_roundw
        case rel => exact ⟨q + 1, by omega, by first | rw [HWD.out, hw2] | rw [HWD.out], by go_num, HB3⟩
        case measure => simp [intOf]; omega
      · have hw2 : wq = wq1 := by have := HW1.out; simpa using this.symm
        clear HW1
        go_wp2_with fail
        go_roundw
        case rel => exact ⟨q + 1, by omega, by first | rw [HWD.out, hw2] | rw [HWD.out], by go_num, HB3⟩
        case measure => simp [intOf]; omega
    · obtain rfl : q = p := by omega
      have hqn : q < n := by have := Hpn.out; omega
      have hqi : (q : Int) < (n : Int) := by omega
      have hq1 : q + 1 ≤ 1048576 := by omega
      have HGq0 := fun W => mgreat_any (mL L q) W
      have HRq0 := fun W => HRd.out q hqn W
      rw [HGt.out] at HGq0
      obtain ⟨c0, c1, c2, c3, c4⟩ := HM.out.below HBr.out q hqn
      have hw1 : wantL L (q + 1) = if goodM (mL L q) then wantL L q else 1 := rfl
      generalize goodM (mL L q) = gd at hw1 HRq0
      generalize wantL L q = wq at *
      obtain ⟨wq1, hwq1⟩ : ∃ z, wantL L (q + 1) = z := ⟨_, rfl⟩
      rw [hwq1] at hw1
      have HWD := Lib.hid hwq1
      clear hwq1
      have HGq := Lib.hid HGq0
      have HRq := Lib.hid HRq0
      have HW1 := Lib.hid hw1
      clear HGq0 HRq0 hw1
      go_wp2_with fail
      refine (HGq.out _).mono ?_
      rintro e w2 ⟨rfl, hb⟩
      have HB2 := Lib.hid (below_nx HBr.out hb)
      have HC2 := Lib.hid (And.intro (cell_below c0 hb) (And.intro (cell_below c1 hb) (And.intro (cell_below c2 hb) (And.intro (cell_below c3 hb) (cell_below c4 hb)))))
      clear hb c0 c1 c2 c3 c4
      obtain ⟨c0, c1, c2, c3, c4⟩ := HC2.out
      go_wp2_with fail
      refine (awake11_any _).mono ?_
      rintro e w3 ⟨rfl, hb⟩
      have HB3 := Lib.hid (below_nx HB2.out hb)
      clear hb c0 c1 c2 c3 c4
      go_wp2_with fail
      go_ret
      exact ⟨rfl, HB3.out⟩

set_option maxRecDepth 100000 in
set_option maxHeartbeats 4000000 in
theorem gproducts_bad (b o n c : Nat) (L : List M5) (w : World) (hM : MlC w b o n L) (hL : L.length = n) (hn6 : n ≤ 6) (hn0 : 0 < n) (hnc : n ≤ c) (hOk : ∀ i, i < n → (mL L i).Ok w) (hg : ∀ i, i < n → greatM (mL L i) = false) (p : Nat) (hp : p < n) (hgd : ∀ i, i < p → goodM (mL L i) = true) (hb : goodM (mL L p) = false) :
    Calls Try.prog 4 #[.slice (some ⟨b, o, none⟩) n c] w fun e w' => e = .returned (.bool true) ∧ Below w.heap.size w w' := by
  have HM := Lib.hid hM
  have HRd := Lib.hid (fun i (h : i < n) W => mrgood_any (hOk i h) W)
  have g6 : decide ((6 : Int) < (n : Int)) = false := decide_eq_false (by omega)
  have g6' : decide (6 < n) = false := decide_eq_false (by omega)
  have HNg := Lib.hid hg
  have HWn := Lib.hid (wantL_bad hp hb)
  have HFo := Lib.hid (fun W (h : Below w.heap.size w W) => gefollow_bad b o n c L W (hM.below h) hL (by omega) hn0 (fun i hi => (hOk i hi).below h) p hp hgd hb)
  have HPr := Lib.hid (fun W (h : Below w.heap.size w W) => geproduct_err (some ⟨b, o, none⟩) n c 1 W (by omega) (fun W' h' => HFo.out W' (below_nx h h')))
  have t0 : ((n : Int) == 0) = false := by simp; omega
  have t0' : (n == 0) = false := by simp; omega
  obtain ⟨b1, hb1⟩ : ∃ x, decide ((1 : Int) < (n : Int)) = x := ⟨_, rfl⟩
  have hb2 : decide (1 < n) = b1 := by rw [← hb1]; exact decide_eq_decide.2 (by omega)
  clear hM hL hn0 hnc hOk hg hgd hb hp HFo
  go_enter Try.func4, Try.ntmps4
  go_wp2_with fail
  refine (awake11_any _).mono ?_
  rintro e w1 ⟨rfl, hb⟩
  have HB1 := Lib.hid hb
  clear hb
  go_wp2_with fail
  go_loopw [3, 4] (fun v a wr => ∃ q : Nat, q ≤ n ∧ v = .int .i64 (wantL L q) ∧ a = .int .i64 q ∧ Hid (Below w.heap.size w wr)) (fun _ a _ => n + 1 - (intOf a).toNat)
  case atStart => exact ⟨0, Nat.zero_le _, rfl, rfl, HB1⟩
  case round =>
    clear HB1
    obtain ⟨q, hq, rfl, rfl, HBr⟩ := hrel
    by_cases hlt : q < n
    · skip
      have hqn : q < n := by omega
      have hqi : (q : Int) < (n : Int) := by omega
      have hq1 : q + 1 ≤ 1048576 := by omega
      have HGq0 := fun W => mgreat_any (mL L q) W
      have HRq0 := fun W => HRd.out q hqn W
      rw [HNg.out q hlt] at HGq0
      obtain ⟨c0, c1, c2, c3, c4⟩ := HM.out.below HBr.out q hqn
      have hw1 : wantL L (q + 1) = if goodM (mL L q) then wantL L q else 1 := rfl
      generalize goodM (mL L q) = gd at hw1 HRq0
      generalize wantL L q = wq at *
      obtain ⟨wq1, hwq1⟩ : ∃ z, wantL L (q + 1) = z := ⟨_, rfl⟩
      rw [hwq1] at hw1
      have HWD := Lib.hid hwq1
      clear hwq1
      have HGq := Lib.hid HGq0
      have HRq := Lib.hid HRq0
      have HW1 := Lib.hid hw1
      clear HGq0 HRq0 hw1
      go_wp2_with fail
      refine (HGq.out _).mono ?_
      rintro e w2 ⟨rfl, hb⟩
      have HB2 := Lib.hid (below_nx HBr.out hb)
      have HC2 := Lib.hid (And.intro (cell_below c0 hb) (And.intro (cell_below c1 hb) (And.intro (cell_below c2 hb) (And.intro (cell_below c3 hb) (cell_below c4 hb)))))
      clear hb c0 c1 c2 c3 c4
      obtain ⟨c0, c1, c2, c3, c4⟩ := HC2.out
      go_wp2_with fail
      refine (HRq.out _).mono ?_
      rintro e w3 ⟨rfl, hb⟩
      have HB3 := Lib.hid (below_nx HB2.out hb)
      clear hb c0 c1 c2 c3 c4
      cases gd
      · have hw2 : (1 : Int) = wq1 := by have := HW1.out; simpa using this.symm
        clear HW1
        go_wp2_with fail
        go_roundw
        case rel => exact ⟨q + 1, by omega, by first | rw [HWD.out, hw2] | rw [HWD.out], by go_num, HB3⟩
        case measure => simp [intOf]; omega
      · have hw2 : wq = wq1 := by have := HW1.out; simpa using this.symm
        clear HW1
        go_wp2_with fail
        go_roundw
        case rel => exact ⟨q + 1, by omega, by first | rw [HWD.out, hw2] | rw [HWD.out], by go_num, HB3⟩
        case measure => simp [intOf]; omega
    · obtain rfl : n = q := by omega
      have hqc : ¬ (n : Int) < (n : Int) := by omega
      rw [HWn.out]
      clear hlt hq
      go_wp2_with fail
      go_loopw [3, 5] (fun v a wr => v = .int .i64 1 ∧ a = .int .i64 ((1 : Nat) : Int) ∧ Hid (Below w.heap.size w wr)) (fun _ a _ => 0)
      case atStart => exact ⟨rfl, rfl, HBr⟩
      case round =>
        clear HBr
        obtain ⟨rfl, rfl, HBr⟩ := hrel
        cases b1
        · go_wp2_with fail
          refine (HPr.out _ HBr.out).mono ?_
          rintro e w5 ⟨rfl, hb⟩
          have HB5 := Lib.hid (below_al (below_nx HBr.out hb) (o := (.cells #[.slice none 0 0, .int .i64 0, .int .i64 0, .int .i64 0, .int .i64 0] 25)))
          have Hm5 := Lib.hid (Blk.new w5 25 #[.slice none 0 0, .int .i64 0, .int .i64 0, .int .i64 0, .int .i64 0])
          clear hb
          obtain ⟨m0, m1, m2, m3, m4⟩ := cells5 Hm5.out
          go_wp2_with fail
          clear m0 m1 m2 m3 m4
          refine (awake11_any _).mono ?_
          rintro e w6 ⟨rfl, hb⟩
          have HB6 := Lib.hid (below_nx HB5.out hb)
          clear hb
          go_wp2_with fail
          go_ret
          exact ⟨rfl, HB6.out⟩
        · go_wp2_with fail
          refine (HPr.out _ HBr.out).mono ?_
          rintro e w5 ⟨rfl, hb⟩
          have HB5 := Lib.hid (below_al (below_nx HBr.out hb) (o := (.cells #[.slice none 0 0, .int .i64 0, .int .i64 0, .int .i64 0, .int .i64 0] 25)))
          have Hm5 := Lib.hid (Blk.new w5 25 #[.slice none 0 0, .int .i64 0, .int .i64 0, .int .i64 0, .int .i64 0])
          clear hb
          obtain ⟨m0, m1, m2, m3, m4⟩ := cells5 Hm5.out
          go_wp2_with fail
          clear m0 m1 m2 m3 m4
          refine (awake11_any _).mono ?_
          rintro e w6 ⟨rfl, hb⟩
          have HB6 := Lib.hid (below_nx HB5.out hb)
          clear hb
          go_wp2_with fail
          go_ret
          exact ⟨rfl, HB6.out⟩
end Go.Proofs.Ytbbgldelebgnfaa
