/-
GemmProducts, no error. Conditions: as each says.
-/
import Derived.Test.YtbbgldelebgnfaaZGfG
import Derived.Test.YtbbgldelebgnfaaZGeM
import Derived.Test.YtbbgldelebgnfaaUaaq
set_option linter.unusedVariables false
set_option linter.unusedSimpArgs false
set_option linter.unnecessarySimpa false
namespace Go.Proofs.Ytbbgldelebgnfaa
open Go.RowKit
attribute [local go_sem ↓] Go.wp_at_zero Go.wp_at_succ

@[go_sem] theorem run_field_AG (r k : Int) (g n c : Nat) (w : World) : (Instr.field 35 (.agg #[.int .i64 r, .int .i64 k, .slice (some ⟨g, 0, none⟩) n c]) 2).run Try.prog w = .ok (.slice (some ⟨g, 0, none⟩) n c) w := by kernel_rfl

/-- A table of its own, of which this holds. -/
def TbOw (W : World) (v : Value) (S : List Nat → Prop) (r k N : Nat) : Prop := ∃ g c T, v = .agg #[.int .i64 (r : Int), .int .i64 (k : Int), .slice (some ⟨g, 0, none⟩) N c] ∧ S T ∧ Own W g T
theorem TbOw.below {W W' : World} {v : Value} {S : List Nat → Prop} {r k N : Nat} (h : TbOw W v S r k N) (hb : Below W.heap.size W W') : TbOw W' v S r k N := by
  obtain ⟨g, c, T, h1, h2, h3⟩ := h; exact ⟨g, c, T, h1, h2, h3.nxt hb⟩
/-- A table has been stored. -/
def TbSt (S : List Nat → Prop) (R k N tb : Nat) (wr W : World) : Prop := ∃ W' g c T, Below wr.heap.size wr W' ∧ W = ((W'.setCell ⟨tb, 0, none⟩ (.int .i64 (R : Int))).setCell ⟨tb, 1, none⟩ (.int .i64 (k : Int))).setCell ⟨tb, 2, none⟩ (.slice (some ⟨g, 0, none⟩) N c) ∧ S T ∧ Own W' g T
/-- The document's table holds the product's numbers. -/
def TbP (L : List M5) (R q N : Nat) (T : List Nat) : Prop := T.length = N ∧ ∀ a, a < R → ∀ b, b < mk L q → Is (T.getD (a * mk L q + b) 0) (pF L q a b)
def TbE (L : List M5) (q N : Nat) (T : List Nat) : Prop := T.length = N ∧ ∀ a, a < mr L q → ∀ b, b < mk L q → T.getD (a * mk L q + b) 0 = eM L q a b
theorem tbE_zero {L : List M5} {N : Nat} {T : List Nat} (h : TbE L 0 N T) (hw : Wds (mL L 0).l) : TbP L (mr L 0) 0 N T :=
  ⟨h.1, fun a ha b hb => by rw [h.2 a ha b hb]; exact Is.refl (getD_wds hw _)⟩

set_option maxRecDepth 100000 in
set_option maxHeartbeats 4000000 in
theorem gproducts_ok (b o n c : Nat) (L : List M5) (w : World) (hM : MlC w b o n L) (hL : L.length = n) (hn6 : n ≤ 6) (hn0 : 0 < n) (hnc : n ≤ c) (hOk : ∀ i, i < n → (mL L i).Ok w) (hg : ∀ i, i < n → greatM (mL L i) = false) (hgd : ∀ i, i < n → goodM (mL L i) = true) (hs : ∀ i, i < n → mr L i ≤ 20 ∧ mk L i ≤ 20 ∧ (mL L i).l.length ≤ 1000) (hch : ∀ i, 1 ≤ i → i < n → mk L (i - 1) = mr L i) (R D : Nat) (hR : mr L 0 = R) (hD : max 1 R = D) :
    Calls Try.prog 4 #[.slice (some ⟨b, o, none⟩) n c] w fun e w' => e = .returned (.bool true) ∧ Below w.heap.size w w' := by
  have HM := Lib.hid hM
  have HRd := Lib.hid (fun i (h : i < n) W => mrgood_any (hOk i h) W)
  have g6 : decide ((6 : Int) < (n : Int)) = false := decide_eq_false (by omega)
  have g6' : decide (6 < n) = false := decide_eq_false (by omega)
  have HNg := Lib.hid hg
  have HWn := Lib.hid (wantL_good hgd)
  have HNa := Lib.hid (fun i (h : i < n) => And.intro (good_nat (hgd i h)).2.1 (good_nat (hgd i h)).2.2.1)
  have HPr := Lib.hid (fun W (h : Below w.heap.size w W) => geproduct_ok b o n c L R D W (hM.below h) hL (by omega) hn0 hnc (fun i hi => (hOk i hi).below h) hgd (fun i hi => ⟨by have := hs i hi; omega, by have := hs i hi; omega, by have := hs i hi; omega⟩) hch hR hD)
  have HOf := Lib.hid (fun q (hq : q < n) W (h : Below w.heap.size w W) => show Calls Try.prog 14 #[.agg #[.slice (mL L q).A (mL L q).l.length (mL L q).c, .int .i64 (mo L q : Int), .int .i64 (mr L q : Int), .int .i64 (mk L q : Int), .int .i64 (ml L q : Int)]] W fun e w' => ∃ g N T, e = .returned (.agg #[.int .i64 (mr L q : Int), .int .i64 (mk L q : Int), .slice (some ⟨g, 0, none⟩) N N]) ∧ mr L q * mk L q = N ∧ TbE L q N T ∧ Row w' (some ⟨g, 0, none⟩) (f64s T) ∧ Below W.heap.size W w' from by
    obtain ⟨e1, e2, e3, e4, g1, g2, g3⟩ := good_nat (hgd q hq)
    have hk := (hOk q hq).below h
    have hs1 := hs q hq
    have hNb : mr L q * mk L q ≤ 20 * 20 := Nat.mul_le_mul hs1.1 hs1.2.1
    refine (rof_any (mL L q).A (mL L q).l.length (mL L q).c (mL L q).l (mo L q) (mr L q) (mk L q) (ml L q) _ W hk.row rfl (by omega) rfl (by omega) (by omega) (by omega) g3).mono ?_
    rintro e w' ⟨g, T, k1, k2, k3, _, k4⟩
    exact ⟨g, _, T, k1, rfl, ⟨k2.1, fun a ha b hb => tab_get k2 rfl ha hb⟩, k3, k4⟩)
  have HEl := Lib.hid (show ∀ q, q < n → w.cell? ⟨b, o + q * 5, none⟩ = some (.slice (mL L q).A (mL L q).l.length (mL L q).c) ∧ w.cell? ⟨b, o + q * 5 + 1, none⟩ = some (.int .i64 (mo L q : Int)) ∧ w.cell? ⟨b, o + q * 5 + 2, none⟩ = some (.int .i64 (mr L q : Int)) ∧ w.cell? ⟨b, o + q * 5 + 3, none⟩ = some (.int .i64 (mk L q : Int)) ∧ w.cell? ⟨b, o + q * 5 + 4, none⟩ = some (.int .i64 (ml L q : Int)) from fun q hq => by
    obtain ⟨e1, e2, e3, e4, _⟩ := good_nat (hgd q hq)
    have := hM q hq
    rw [e1, e2, e3, e4] at this
    exact this)
  have HWd := Lib.hid (fun q (hq : q < n) => (hOk q hq).wds)
  have HSz := Lib.hid (fun q (hq : q < n) => And.intro (hs q hq).1 (hs q hq).2.1)
  have HR0 := Lib.hid hR
  have HD0 := Lib.hid hD
  have HCh := Lib.hid hch
  have Hn0 := Lib.hid hn0
  have t0 : ((n : Int) == 0) = false := by simp; omega
  have t0' : (n == 0) = false := by simp; omega
  have hn0i : (0 : Int) < (n : Int) := by omega
  clear hM hL hnc hOk hg hgd hs hch hR hD
  go_enter Try.func4, Try.ntmps4
  go_wp2_with fail
  refine (awake11_any _).mono ?_
  rintro e w1 ⟨rfl, hb⟩
  have HB1 := Lib.hid hb
  clear hb
  go_wp2_with fail
  go_loopw [3, 4] (fun v a wr => ∃ q : Nat, q ≤ n ∧ v = .int .i64 (wantL L q) ∧ a = .int .i64 q ∧ Hid (Below w.heap.size w wr)) (fun _ a _ => n + 1 - (intOf a).toNat)
  case atStart => exact ⟨0, Nat.zero_le _, rfl, rfl, HB1⟩
  case round =>
    clear HB1
    obtain ⟨q, hq, rfl, rfl, HBr⟩ := hrel
    by_cases hlt : q < n
    · skip
      have hqn : q < n := by omega
      have hqi : (q : Int) < (n : Int) := by omega
      have hq1 : q + 1 ≤ 1048576 := by omega
      have HGq0 := fun W => mgreat_any (mL L q) W
      have HRq0 := fun W => HRd.out q hqn W
      rw [HNg.out q hlt] at HGq0
      obtain ⟨c0, c1, c2, c3, c4⟩ := HM.out.below HBr.out q hqn
      have hw1 : wantL L (q + 1) = if goodM (mL L q) then wantL L q else 1 := rfl
      generalize goodM (mL L q) = gd at hw1 HRq0
      generalize wantL L q = wq at *
      obtain ⟨wq1, hwq1⟩ : ∃ z, wantL L (q + 1) = z := ⟨_, rfl⟩
      rw [hwq1] at hw1
      have HWD := Lib.hid hwq1
      clear hwq1
      have HGq := Lib.hid HGq0
      have HRq := Lib.hid HRq0
      have HW1 := Lib.hid hw1
      clear HGq0 HRq0 hw1
      go_wp2_with fail
      refine (HGq.out _).mono ?_
      rintro e w2 ⟨rfl, hb⟩
      have HB2 := Lib.hid (below_nx HBr.out hb)
      have HC2 := Lib.hid (And.intro (cell_below c0 hb) (And.intro (cell_below c1 hb) (And.intro (cell_below c2 hb) (And.intro (cell_below c3 hb) (cell_below c4 hb)))))
      clear hb c0 c1 c2 c3 c4
      obtain ⟨c0, c1, c2, c3, c4⟩ := HC2.out
      go_wp2_with fail
      refine (HRq.out _).mono ?_
      rintro e w3 ⟨rfl, hb⟩
      have HB3 := Lib.hid (below_nx HB2.out hb)
      clear hb c0 c1 c2 c3 c4
      cases gd
      · have hw2 : (1 : Int) = wq1 := by have := HW1.out; simpa using this.symm
        clear HW1
        go_wp2_with fail
        go_roundw
        case rel => exact ⟨q + 1, by omega, by first | rw [HWD.out, hw2] | rw [HWD.out], by go_num, HB3⟩
        case measure => simp [intOf]; omega
      · have hw2 : wq = wq1 := by have := HW1.out; simpa using this.symm
        clear HW1
        go_wp2_with fail
        go_roundw
        case rel => exact ⟨q + 1, by omega, by first | rw [HWD.out, hw2] | rw [HWD.out], by go_num, HB3⟩
        case measure => simp [intOf]; omega
    · obtain rfl : n = q := by omega
      have hqc : ¬ (n : Int) < (n : Int) := by omega
      rw [HWn.out]
      clear hlt hq
      go_wp2_with fail
      go_loopw [3, 5] (fun v a wr => ∃ q : Nat, v = .int .i64 0 ∧ a = .int .i64 (q : Int) ∧ Hid (1 ≤ q ∧ q ≤ n) ∧ Hid (Below w.heap.size w wr)) (fun _ a _ => n + 1 - (intOf a).toNat)
      case atStart => exact ⟨1, rfl, rfl, Lib.hid ⟨Nat.le_refl 1, Hn0.out⟩, HBr⟩
      case round =>
        clear HBr
        obtain ⟨q, rfl, rfl, HQ0, HBr⟩ := hrel
        by_cases hlt : q < n
        · skip
          have hqn : q < n := by have := HQ0.out; omega
          have bqn := hqn
          have hqi : (q : Int) < (n : Int) := by omega
          have hq1 : q + 1 ≤ 1048576 := by omega
          obtain ⟨q1, hqq⟩ : ∃ q1, q1 + 1 = q := ⟨q - 1, by have := HQ0.out; omega⟩
          have hqm : q - 1 = q1 := by omega
          have bq : q1 < n := by omega
          have bqi : (q1 : Int) < (n : Int) := by omega
          obtain ⟨_, _, cr, _, _⟩ := HM.out.below HBr.out q hqn
          obtain ⟨_, _, _, ck, _⟩ := HM.out.below HBr.out q1 bq
          rw [(HNa.out q hqn).1] at cr
          rw [(HNa.out q1 bq).2] at ck
          obtain ⟨K1, hK1⟩ : ∃ K1, mk L q1 = K1 := ⟨_, rfl⟩
          obtain ⟨R2, hR2⟩ : ∃ R2, mr L q = R2 := ⟨_, rfl⟩
          rw [hK1] at ck
          rw [hR2] at cr
          have hE : ((K1 : Int) != (R2 : Int)) = false := by
            rw [← hK1, ← hR2]
            have := HCh.out q HQ0.out.1 (by omega)
            rw [hqm] at this
            rw [this]; simp
          have hE' : (K1 != R2) = false := by
            rw [← hK1, ← hR2]
            have := HCh.out q HQ0.out.1 (by omega)
            rw [hqm] at this
            rw [this]; simp
          have HCk := Lib.hid ck
          have HCr := Lib.hid cr
          have hqs : (q : Int) - 1 = (q1 : Int) := by omega
          have ws1 : wrap64 ((q : Int) - 1) = (q1 : Int) := by rw [hqs]; exact wrap_id (by unfold I64; omega)
          have ws2 : IntKind.i64.wrap ((q : Int) - 1) = (q1 : Int) := by rw [hqs]; exact wrapi (by omega) (by omega)
          clear hqq hqm ck cr hK1 hR2 hqs
          go_wp2_with fail
          refine wp_region_inv [45, 46, 47, 48, 49, 50, 51, 52, 53, 54, 55, 56] (fun d s W => (d 0 = true → s 45 = .slice (some ⟨b, o, none⟩) n c) ∧ (d 1 = true → s 46 = .int .i64 (q : Int)) ∧ (d 2 = true → s 47 = .int .i64 (q1 : Int)) ∧ (d 3 = true → s 48 = .pointer (some ⟨b, o + q1 * 5, none⟩)) ∧ (d 4 = true → s 49 = .pointer (some ⟨b, o + q1 * 5 + 3, none⟩)) ∧ (d 5 = true → s 50 = .int .i64 (K1 : Int)) ∧ (d 6 = true → s 51 = .slice (some ⟨b, o, none⟩) n c) ∧ (d 7 = true → s 52 = .int .i64 (q : Int)) ∧ (d 8 = true → s 53 = .pointer (some ⟨b, o + q * 5, none⟩)) ∧ (d 9 = true → s 54 = .pointer (some ⟨b, o + q * 5 + 2, none⟩)) ∧ (d 10 = true → s 55 = .int .i64 (R2 : Int)) ∧ (d 11 = true → s 56 = .bool false) ∧ Below wr.heap.size wr W)
            rfl (by kernel_rfl) ?_ ?_ ?_
          · exact ⟨by simp, by simp, by simp, by simp, by simp, by simp, by simp, by simp, by simp, by simp, by simp, by simp, (Below.refl _ _).drew⟩
          · refine ⟨?_, ?_, ?_, ?_, ?_, ?_, ?_, ?_, ?_, ?_, ?_, ?_, trivial⟩
            all_goals
              intro d s W hJ hfr hd hdep
              simp only [List.mem_cons, forall_eq_or_imp, List.not_mem_nil, false_implies, implies_true, and_true, Region.binds] at hdep
              have f0 := hfr 0 (by decide)
              have f5 := hfr 5 (by decide)
              simp at f0 f5 hdep
              obtain ⟨h0, h1, h2, h3, h4, h5, h6, h7, h8, h9, h10, h11, hT⟩ := hJ
            · unfold OpSteps
              simp [go_sem, evS, f0]
              exact ⟨fun _ => by simp [sput], fun h => by simpa [sput] using h1 (by simpa [did] using h), fun h => by simpa [sput] using h2 (by simpa [did] using h), fun h => by simpa [sput] using h3 (by simpa [did] using h), fun h => by simpa [sput] using h4 (by simpa [did] using h), fun h => by simpa [sput] using h5 (by simpa [did] using h), fun h => by simpa [sput] using h6 (by simpa [did] using h), fun h => by simpa [sput] using h7 (by simpa [did] using h), fun h => by simpa [sput] using h8 (by simpa [did] using h), fun h => by simpa [sput] using h9 (by simpa [did] using h), fun h => by simpa [sput] using h10 (by simpa [did] using h), fun h => by simpa [sput] using h11 (by simpa [did] using h), hT⟩
            · unfold OpSteps
              simp [go_sem, evS, f5]
              exact ⟨fun h => by simpa [sput] using h0 (by simpa [did] using h), fun _ => by simp [sput], fun h => by simpa [sput] using h2 (by simpa [did] using h), fun h => by simpa [sput] using h3 (by simpa [did] using h), fun h => by simpa [sput] using h4 (by simpa [did] using h), fun h => by simpa [sput] using h5 (by simpa [did] using h), fun h => by simpa [sput] using h6 (by simpa [did] using h), fun h => by simpa [sput] using h7 (by simpa [did] using h), fun h => by simpa [sput] using h8 (by simpa [did] using h), fun h => by simpa [sput] using h9 (by simpa [did] using h), fun h => by simpa [sput] using h10 (by simpa [did] using h), fun h => by simpa [sput] using h11 (by simpa [did] using h), hT⟩
            · have g1 := h1 (by simp [hdep])
              unfold OpSteps
              simp [go_sem, evS, g1, ws1, ws2]
              exact ⟨fun h => by simpa [sput] using h0 (by simpa [did] using h), fun h => by simpa [sput] using h1 (by simpa [did] using h), fun _ => by simp [sput], fun h => by simpa [sput] using h3 (by simpa [did] using h), fun h => by simpa [sput] using h4 (by simpa [did] using h), fun h => by simpa [sput] using h5 (by simpa [did] using h), fun h => by simpa [sput] using h6 (by simpa [did] using h), fun h => by simpa [sput] using h7 (by simpa [did] using h), fun h => by simpa [sput] using h8 (by simpa [did] using h), fun h => by simpa [sput] using h9 (by simpa [did] using h), fun h => by simpa [sput] using h10 (by simpa [did] using h), fun h => by simpa [sput] using h11 (by simpa [did] using h), hT⟩
            · have g0 := h0 (by simp [hdep])
              have g2 := h2 (by simp [hdep])
              unfold OpSteps
              simp [go_sem, evS, g0, g2, bq, bqi]
              exact ⟨fun h => by simpa [sput] using h0 (by simpa [did] using h), fun h => by simpa [sput] using h1 (by simpa [did] using h), fun h => by simpa [sput] using h2 (by simpa [did] using h), fun _ => by simp [sput], fun h => by simpa [sput] using h4 (by simpa [did] using h), fun h => by simpa [sput] using h5 (by simpa [did] using h), fun h => by simpa [sput] using h6 (by simpa [did] using h), fun h => by simpa [sput] using h7 (by simpa [did] using h), fun h => by simpa [sput] using h8 (by simpa [did] using h), fun h => by simpa [sput] using h9 (by simpa [did] using h), fun h => by simpa [sput] using h10 (by simpa [did] using h), fun h => by simpa [sput] using h11 (by simpa [did] using h), hT⟩
            · have g3 := h3 (by simp [hdep])
              unfold OpSteps
              simp [go_sem, evS, g3]
              exact ⟨fun h => by simpa [sput] using h0 (by simpa [did] using h), fun h => by simpa [sput] using h1 (by simpa [did] using h), fun h => by simpa [sput] using h2 (by simpa [did] using h), fun h => by simpa [sput] using h3 (by simpa [did] using h), fun _ => by simp [sput], fun h => by simpa [sput] using h5 (by simpa [did] using h), fun h => by simpa [sput] using h6 (by simpa [did] using h), fun h => by simpa [sput] using h7 (by simpa [did] using h), fun h => by simpa [sput] using h8 (by simpa [did] using h), fun h => by simpa [sput] using h9 (by simpa [did] using h), fun h => by simpa [sput] using h10 (by simpa [did] using h), fun h => by simpa [sput] using h11 (by simpa [did] using h), hT⟩
            · have g4 := h4 (by simp [hdep])
              unfold OpSteps
              have pc := cell_below HCk.out hT
              simp [go_sem, evS, g4, pc]
              exact ⟨fun h => by simpa [sput] using h0 (by simpa [did] using h), fun h => by simpa [sput] using h1 (by simpa [did] using h), fun h => by simpa [sput] using h2 (by simpa [did] using h), fun h => by simpa [sput] using h3 (by simpa [did] using h), fun h => by simpa [sput] using h4 (by simpa [did] using h), fun _ => by simp [sput], fun h => by simpa [sput] using h6 (by simpa [did] using h), fun h => by simpa [sput] using h7 (by simpa [did] using h), fun h => by simpa [sput] using h8 (by simpa [did] using h), fun h => by simpa [sput] using h9 (by simpa [did] using h), fun h => by simpa [sput] using h10 (by simpa [did] using h), fun h => by simpa [sput] using h11 (by simpa [did] using h), hT⟩
            · unfold OpSteps
              simp [go_sem, evS, f0]
              exact ⟨fun h => by simpa [sput] using h0 (by simpa [did] using h), fun h => by simpa [sput] using h1 (by simpa [did] using h), fun h => by simpa [sput] using h2 (by simpa [did] using h), fun h => by simpa [sput] using h3 (by simpa [did] using h), fun h => by simpa [sput] using h4 (by simpa [did] using h), fun h => by simpa [sput] using h5 (by simpa [did] using h), fun _ => by simp [sput], fun h => by simpa [sput] using h7 (by simpa [did] using h), fun h => by simpa [sput] using h8 (by simpa [did] using h), fun h => by simpa [sput] using h9 (by simpa [did] using h), fun h => by simpa [sput] using h10 (by simpa [did] using h), fun h => by simpa [sput] using h11 (by simpa [did] using h), hT⟩
            · unfold OpSteps
              simp [go_sem, evS, f5]
              exact ⟨fun h => by simpa [sput] using h0 (by simpa [did] using h), fun h => by simpa [sput] using h1 (by simpa [did] using h), fun h => by simpa [sput] using h2 (by simpa [did] using h), fun h => by simpa [sput] using h3 (by simpa [did] using h), fun h => by simpa [sput] using h4 (by simpa [did] using h), fun h => by simpa [sput] using h5 (by simpa [did] using h), fun h => by simpa [sput] using h6 (by simpa [did] using h), fun _ => by simp [sput], fun h => by simpa [sput] using h8 (by simpa [did] using h), fun h => by simpa [sput] using h9 (by simpa [did] using h), fun h => by simpa [sput] using h10 (by simpa [did] using h), fun h => by simpa [sput] using h11 (by simpa [did] using h), hT⟩
            · have g6 := h6 (by simp [hdep])
              have g7 := h7 (by simp [hdep])
              unfold OpSteps
              simp [go_sem, evS, g6, g7, bqn, hqi]
              exact ⟨fun h => by simpa [sput] using h0 (by simpa [did] using h), fun h => by simpa [sput] using h1 (by simpa [did] using h), fun h => by simpa [sput] using h2 (by simpa [did] using h), fun h => by simpa [sput] using h3 (by simpa [did] using h), fun h => by simpa [sput] using h4 (by simpa [did] using h), fun h => by simpa [sput] using h5 (by simpa [did] using h), fun h => by simpa [sput] using h6 (by simpa [did] using h), fun h => by simpa [sput] using h7 (by simpa [did] using h), fun _ => by simp [sput], fun h => by simpa [sput] using h9 (by simpa [did] using h), fun h => by simpa [sput] using h10 (by simpa [did] using h), fun h => by simpa [sput] using h11 (by simpa [did] using h), hT⟩
            · have g8 := h8 (by simp [hdep])
              unfold OpSteps
              simp [go_sem, evS, g8]
              exact ⟨fun h => by simpa [sput] using h0 (by simpa [did] using h), fun h => by simpa [sput] using h1 (by simpa [did] using h), fun h => by simpa [sput] using h2 (by simpa [did] using h), fun h => by simpa [sput] using h3 (by simpa [did] using h), fun h => by simpa [sput] using h4 (by simpa [did] using h), fun h => by simpa [sput] using h5 (by simpa [did] using h), fun h => by simpa [sput] using h6 (by simpa [did] using h), fun h => by simpa [sput] using h7 (by simpa [did] using h), fun h => by simpa [sput] using h8 (by simpa [did] using h), fun _ => by simp [sput], fun h => by simpa [sput] using h10 (by simpa [did] using h), fun h => by simpa [sput] using h11 (by simpa [did] using h), hT⟩
            · have g9 := h9 (by simp [hdep])
              unfold OpSteps
              have pc := cell_below HCr.out hT
              simp [go_sem, evS, g9, pc]
              exact ⟨fun h => by simpa [sput] using h0 (by simpa [did] using h), fun h => by simpa [sput] using h1 (by simpa [did] using h), fun h => by simpa [sput] using h2 (by simpa [did] using h), fun h => by simpa [sput] using h3 (by simpa [did] using h), fun h => by simpa [sput] using h4 (by simpa [did] using h), fun h => by simpa [sput] using h5 (by simpa [did] using h), fun h => by simpa [sput] using h6 (by simpa [did] using h), fun h => by simpa [sput] using h7 (by simpa [did] using h), fun h => by simpa [sput] using h8 (by simpa [did] using h), fun h => by simpa [sput] using h9 (by simpa [did] using h), fun _ => by simp [sput], fun h => by simpa [sput] using h11 (by simpa [did] using h), hT⟩
            · have g5 := h5 (by simp [hdep])
              have g10 := h10 (by simp [hdep])
              unfold OpSteps
              simp [go_sem, evS, g5, g10, hE, hE']
              exact ⟨fun h => by simpa [sput] using h0 (by simpa [did] using h), fun h => by simpa [sput] using h1 (by simpa [did] using h), fun h => by simpa [sput] using h2 (by simpa [did] using h), fun h => by simpa [sput] using h3 (by simpa [did] using h), fun h => by simpa [sput] using h4 (by simpa [did] using h), fun h => by simpa [sput] using h5 (by simpa [did] using h), fun h => by simpa [sput] using h6 (by simpa [did] using h), fun h => by simpa [sput] using h7 (by simpa [did] using h), fun h => by simpa [sput] using h8 (by simpa [did] using h), fun h => by simpa [sput] using h9 (by simpa [did] using h), fun h => by simpa [sput] using h10 (by simpa [did] using h), fun _ => by simp [sput], hT⟩
          intro d s W hJ hd
          obtain ⟨h0, h1, h2, h3, h4, h5, h6, h7, h8, h9, h10, h11, hT⟩ := hJ
          have hs56 := h11 (hd 11 (by decide))
          have HB4 := Lib.hid (below_nx HBr.out hT)
          clear h0 h1 h2 h3 h4 h5 h6 h7 h8 h9 h10 h11 hT hd
          simp [setAll, hs56]
          clear hs56
          generalize s 45 = s45
          generalize s 46 = s46
          generalize s 47 = s47
          generalize s 48 = s48
          generalize s 49 = s49
          generalize s 50 = s50
          generalize s 51 = s51
          generalize s 52 = s52
          generalize s 53 = s53
          generalize s 54 = s54
          generalize s 55 = s55
          generalize W = w9 at *
          go_wp2_with fail
          go_roundw
          case rel => exact ⟨q + 1, rfl, by go_num, Lib.hid ⟨by omega, by omega⟩, HB4⟩
          case measure => simp [intOf] <;> omega

        · obtain rfl : n = q := by have := HQ0.out; omega
          have hqc : ¬ (n : Int) < (n : Int) := by omega
          clear hlt HQ0
          go_wp2_with fail
          refine (HPr.out _ HBr.out).mono ?_
          rintro e w2 ⟨gp, N9, M9, rfl, hN9, hPO, hgp, hb⟩
          have HN90 := Lib.hid hN9
          have HPM0 := Lib.hid hPO.2
          have HMb2 := Lib.hid (Blk.new w2 25 #[.slice (some ⟨gp, 0, none⟩) N9 N9, .int .i64 0, .int .i64 (R : Int), .int .i64 (mk L (n - 1) : Int), .int .i64 (D : Int)])
          have HPO2 := Lib.hid (hPO.1.nxt (below_one (o := (.cells #[.slice (some ⟨gp, 0, none⟩) N9 N9, .int .i64 0, .int .i64 (R : Int), .int .i64 (mk L (n - 1) : Int), .int .i64 (D : Int)] 25))))
          have HB2 := Lib.hid (below_al (below_nx HBr.out hb) (o := (.cells #[.slice (some ⟨gp, 0, none⟩) N9 N9, .int .i64 0, .int .i64 (R : Int), .int .i64 (mk L (n - 1) : Int), .int .i64 (D : Int)] 25)))
          have hsz2 := (below_nx HBr.out hb).size
          clear hN9 hPO hgp hb
          obtain ⟨c0, c1, c2, c3, c4⟩ := HEl.out 0 hn0
          have HCx := Lib.hid (And.intro (cell_below c0 HB2.out) (And.intro (cell_below c1 HB2.out) (And.intro (cell_below c2 HB2.out) (And.intro (cell_below c3 HB2.out) (cell_below c4 HB2.out)))))
          clear c0 c1 c2 c3 c4
          obtain ⟨c0, c1, c2, c3, c4⟩ := HCx.out
          rw [Nat.zero_mul, Nat.add_zero] at c0 c1 c2 c3 c4
          have HOf0 := Lib.hid (HOf.out 0 hn0 _ HB2.out)
          go_wp2_with fail
          clear c0 c1 c2 c3 c4
          refine (HOf0.out).mono ?_
          rintro e w3 ⟨gT, N1, T, rfl, hN1, hTE, hRT, hb⟩
          have HMb3 := Lib.hid ((HMb2.out.nxt hb).alloc (.cells #[.int .i64 (mr L 0 : Int), .int .i64 (mk L 0 : Int), .slice (some ⟨gT, 0, none⟩) N1 N1] 35))
          have HPO3 := Lib.hid ((HPO2.out.nxt hb).nxt (below_one (o := (.cells #[.int .i64 (mr L 0 : Int), .int .i64 (mk L 0 : Int), .slice (some ⟨gT, 0, none⟩) N1 N1] 35))))
          have HTb3 := Lib.hid (Blk.new w3 35 #[.int .i64 (mr L 0 : Int), .int .i64 (mk L 0 : Int), .slice (some ⟨gT, 0, none⟩) N1 N1])
          have HRT3 := Lib.hid (hRT.below (below_one (o := (.cells #[.int .i64 (mr L 0 : Int), .int .i64 (mk L 0 : Int), .slice (some ⟨gT, 0, none⟩) N1 N1] 35))))
          have HB3 := Lib.hid (below_al (below_nx HB2.out hb) (o := (.cells #[.int .i64 (mr L 0 : Int), .int .i64 (mk L 0 : Int), .slice (some ⟨gT, 0, none⟩) N1 N1] 35)))
          have HTP3 := Lib.hid (tbE_zero hTE (HWd.out 0 hn0))
          have hsz3 : w2.heap.size < w3.heap.size := (HMb2.out.nxt hb).lt
          have HN13 := Lib.hid hN1
          clear hN1 hTE hRT hb HOf0
          go_wp2_with fail
          have hR2 := HR0.out
          rw [hR2] at HMb3 HPO3 HTb3 HRT3 HB3 HTP3 HN13 ⊢
          generalize hw4 : w3.alloc (.cells #[.int .i64 (R : Int), .int .i64 (mk L 0 : Int), .slice (some ⟨gT, 0, none⟩) N1 N1] 35) = w4 at *
          generalize htk : w3.heap.size = tbk at *
          generalize hmk : w2.heap.size = mbk at *
          have HNe := Lib.hid (show w.heap.size ≤ mbk ∧ mbk < tbk from ⟨hsz2, hsz3⟩)
          clear hw4 htk hmk hsz2 hsz3 hR2
          go_loopw [9] (fun a wr => ∃ q q1 : Nat, q1 + 1 = q ∧ q ≤ n ∧ a = .int .i64 (q : Int) ∧ Hid (∃ gT cT T N1, R * mk L q1 = N1 ∧ Blk wr tbk 35 #[.int .i64 (R : Int), .int .i64 (mk L q1 : Int), .slice (some ⟨gT, 0, none⟩) N1 cT] ∧ TbP L R q1 N1 T ∧ Row wr (some ⟨gT, 0, none⟩) (f64s T) ∧ Blk wr mbk 25 #[.slice (some ⟨gp, 0, none⟩) N9 N9, .int .i64 0, .int .i64 (R : Int), .int .i64 (mk L (n - 1) : Int), .int .i64 (D : Int)] ∧ Own wr gp M9 ∧ Below w.heap.size w wr)) (fun a _ => n + 1 - (intOf a).toNat)
          case atStart => exact ⟨1, 0, rfl, Hn0.out, rfl, Lib.hid ⟨gT, N1, T, N1, HN13.out, HTb3.out, HTP3.out, HRT3.out, HMb3.out, HPO3.out, HB3.out⟩⟩
          case round =>
            clear HMb3 HPO3 HTb3 HRT3 HB3 HTP3 HN13 HMb2 HPO2 HB2 HBr
            obtain ⟨q, q1, hqq, hqn, rfl, HH⟩ := hrel
            have HQQ := Lib.hid hqq
            obtain ⟨gT, cT, T, N1, p1, p2, p3, p4, p5, p6, p7⟩ := HH.out
            by_cases hlt : q < n
            · have hqi : (q : Int) < (n : Int) := by omega
              have hq2 : q + 1 ≤ 1048576 := by omega
              have hsq := HSz.out q hlt
              have hsq1 := HSz.out q1 (by omega)
              have hch1 := HCh.out q (by omega) hlt
              rw [show q - 1 = q1 by omega] at hch1
              have hR20 : R ≤ 20 := by have h := HSz.out 0 hn0; rw [HR0.out] at h; exact h.1
              have HOf0 := Lib.hid (fun W hb => HOf.out q hlt W (below_nx p7 hb))
              obtain ⟨c0, c1, c2, c3, c4⟩ := HEl.out q hlt
              have HCx := Lib.hid (And.intro (cell_below c0 p7) (And.intro (cell_below c1 p7) (And.intro (cell_below c2 p7) (And.intro (cell_below c3 p7) (cell_below c4 p7)))))
              obtain ⟨N3, hN3⟩ : ∃ N3, R * mk L q = N3 := ⟨_, rfl⟩
              have hN3b : N3 ≤ 400 := by
                have h1 : R * mk L q ≤ 20 * 20 := Nat.mul_le_mul hR20 hsq.2
                omega
              have hN1b : N1 ≤ 400 := by
                have h1 : R * mk L q1 ≤ 20 * 20 := Nat.mul_le_mul hR20 hsq1.2
                omega
              have HNew0 := Lib.hid (fun W => show Calls Try.prog 18 #[.int .i64 (R : Int), .int .i64 (mk L q : Int)] W fun e w' => ∃ g T, e = .returned (.agg #[.int .i64 (R : Int), .int .i64 (mk L q : Int), .slice (some ⟨g, 0, none⟩) N3 N3]) ∧ T.length = N3 ∧ Row w' (some ⟨g, 0, none⟩) (f64s T) ∧ Below W.heap.size W w' from
                (rnew_any R (mk L q) N3 W hN3 (by omega) (by omega) (by omega)).mono fun e w' ⟨g, k1, k2, _, k4⟩ => ⟨g, _, k1, by simp, (own_blk k2).row, k4⟩)
              have HNx0 := Lib.hid (fun (g c : Nat) (T : List Nat) (W : World) (h1 : Blk W tbk 35 #[.int .i64 (R : Int), .int .i64 (mk L q : Int), .slice (some ⟨g, 0, none⟩) N3 c]) (h2 : TbP L R q N3 T) (h3 : Row W (some ⟨g, 0, none⟩) (f64s T)) (h4 : Blk W mbk 25 #[.slice (some ⟨gp, 0, none⟩) N9 N9, .int .i64 0, .int .i64 (R : Int), .int .i64 (mk L (n - 1) : Int), .int .i64 (D : Int)]) (h5 : Own W gp M9) (h6 : Below w.heap.size w W) => show Hid (∃ gT cT T N1, R * mk L q = N1 ∧ Blk W tbk 35 #[.int .i64 (R : Int), .int .i64 (mk L q : Int), .slice (some ⟨gT, 0, none⟩) N1 cT] ∧ TbP L R q N1 T ∧ Row W (some ⟨gT, 0, none⟩) (f64s T) ∧ Blk W mbk 25 #[.slice (some ⟨gp, 0, none⟩) N9 N9, .int .i64 0, .int .i64 (R : Int), .int .i64 (mk L (n - 1) : Int), .int .i64 (D : Int)] ∧ Own W gp M9 ∧ Below w.heap.size w W) from Lib.hid ⟨g, c, T, N3, hN3, h1, h2, h3, h4, h5, h6⟩)
              have HTP := Lib.hid p3
              have HRg0 := Lib.hid (fun (gY : Nat) (TY : List Nat) (N2 : Nat) (wy : World) (hby : Below wr.heap.size wr wy) (hN2 : mr L q * mk L q = N2) (hTE : TbE L q N2 TY) (hRY : Row wy (some ⟨gY, 0, none⟩) (f64s TY)) (g3 c3 : Nat) (Z : List Nat) (W : World) (hb : Below wy.heap.size wy W) (hZ : Z.length = N3) (hRZ : Row W (some ⟨g3, 0, none⟩) (f64s Z)) => show Calls Try.prog 13 #[.float .f64 4607182418800017408, .agg #[.int .i64 (R : Int), .int .i64 (mk L q1 : Int), .slice (some ⟨gT, 0, none⟩) N1 cT], .agg #[.int .i64 (mr L q : Int), .int .i64 (mk L q : Int), .slice (some ⟨gY, 0, none⟩) N2 N2], .float .f64 0, .agg #[.int .i64 (R : Int), .int .i64 (mk L q : Int), .slice (some ⟨g3, 0, none⟩) N3 c3]] W fun e w' => ∃ g c T', e = .returned (.agg #[.int .i64 (R : Int), .int .i64 (mk L q : Int), .slice (some ⟨g, 0, none⟩) N3 c]) ∧ TbP L R q N3 T' ∧ Own w' g T' ∧ Below W.heap.size W w' from by
                have hN2b : N2 ≤ 400 := by
                  have h1 : mr L q * mk L q ≤ 20 * 20 := Nat.mul_le_mul hsq.1 hsq.2
                  omega
                rw [← hch1] at hN2 ⊢
                refine (rgemul_any ONEe 0 R (mk L q1) (mk L q) gT N1 cT T gY N2 N2 TY g3 N3 c3 Z W ((p4.below hby).below hb) HTP.out.1 p1 (hRY.below hb) hTE.1 hN2 hRZ hZ hN3 (by omega) (by omega) (by omega) (by omega) (by omega) (by omega)).mono ?_
                rintro e w' ⟨g, c, T', k1, k2, k3, k4, _, k6⟩
                refine ⟨g, c, T', k1, ⟨k3, fun a ha b hb2 => ?_⟩, k2, k6⟩
                have e1 : q = q1 + 1 := by omega
                have := (k4 a ha b hb2).is2 (f := fun k => pF L q1 a k) (g := fun k => eM L q k b) (fun k hk => HTP.out.2 a ha k hk) (fun k hk => by rw [hTE.2 k (by rw [← hch1]; exact hk) b hb2]; exact Is.refl (getD_wds (HWd.out q hlt) _))
                rw [e1] at this ⊢
                exact this)
              clear c0 c1 c2 c3 c4
              obtain ⟨c0, c1, c2, c3, c4⟩ := HCx.out
              rw [← hch1] at c2 HOf0 HRg0
              have HT1 := Lib.hid p2
              have HM1 := Lib.hid p5
              have HP1 := Lib.hid p6
              have HB1 := Lib.hid p7
              obtain ⟨k1, hk1⟩ : ∃ k1, mk L q1 = k1 := ⟨_, rfl⟩
              obtain ⟨k2, hk2⟩ : ∃ k2, mk L q = k2 := ⟨_, rfl⟩
              obtain ⟨A2, hA2⟩ : ∃ A2, (mL L q).A = A2 := ⟨_, rfl⟩
              obtain ⟨n2, hn2⟩ : ∃ n2, (mL L q).l.length = n2 := ⟨_, rfl⟩
              obtain ⟨m2, hm2⟩ : ∃ m2, (mL L q).c = m2 := ⟨_, rfl⟩
              obtain ⟨o2, ho2⟩ : ∃ o2, mo L q = o2 := ⟨_, rfl⟩
              obtain ⟨L2, hL2⟩ : ∃ L2, ml L q = L2 := ⟨_, rfl⟩
              rw [hA2, hn2, hm2] at c0
              rw [ho2] at c1
              rw [hk1] at c2
              rw [hk2] at c3
              rw [hL2] at c4
              rw [hA2, hn2, hm2, ho2, hk1, hk2, hL2] at HOf0
              rw [hk1, hk2] at HRg0
              rw [hk2] at HNew0 HNx0
              rw [hk1] at HT1
              have HK2 := Lib.hid hk2
              have HOf1 := HOf0
              have HRg1 := HRg0
              have HNew := HNew0
              have HNx := HNx0
              clear HOf0 HRg0 HNew0 HNx0 p1 p2 p3 p4 p5 p6 p7 hk1 hk2 hA2 hn2 hm2 ho2 hL2 hch1 hN3 hN3b hN1b hsq hsq1 hqq HH
              have HOw := Lib.hid (HOf1.out wr (Below.refl _ _))
              go_wp2_with fail
              clear c0 c1 c2 c3 c4
              refine (HOw.out).mono ?_
              rintro e wv ⟨gY, N2, TY, rfl, hN2, hTE, hRY, hb⟩
              have HTb0 := Lib.hid ((HT1.out.nxt hb).alloc (.cells #[.int .i64 (k1 : Int), .int .i64 (k2 : Int), .slice (some ⟨gY, 0, none⟩) N2 N2] 35))
              have HMy0 := Lib.hid ((HM1.out.nxt hb).alloc (.cells #[.int .i64 (k1 : Int), .int .i64 (k2 : Int), .slice (some ⟨gY, 0, none⟩) N2 N2] 35))
              have HPy0 := Lib.hid ((HP1.out.nxt hb).nxt (below_one (o := (.cells #[.int .i64 (k1 : Int), .int .i64 (k2 : Int), .slice (some ⟨gY, 0, none⟩) N2 N2] 35))))
              have HYb0 := Lib.hid (Blk.new wv 35 #[.int .i64 (k1 : Int), .int .i64 (k2 : Int), .slice (some ⟨gY, 0, none⟩) N2 N2])
              have HBy0 := Lib.hid (below_al (below_nx HB1.out hb) (o := (.cells #[.int .i64 (k1 : Int), .int .i64 (k2 : Int), .slice (some ⟨gY, 0, none⟩) N2 N2] 35)))
              have HRg := Lib.hid (HRg1.out gY TY N2 _ (below_al hb (o := (.cells #[.int .i64 (k1 : Int), .int .i64 (k2 : Int), .slice (some ⟨gY, 0, none⟩) N2 N2] 35))) hN2 hTE (hRY.below below_one))
              clear hN2 hTE hRY hb HOw HOf1 HRg1 HT1 HM1 HP1 HB1
              go_wp2_with fail
              generalize hwy : wv.alloc (.cells #[.int .i64 (k1 : Int), .int .i64 (k2 : Int), .slice (some ⟨gY, 0, none⟩) N2 N2] 35) = wy at *
              generalize hyk : wv.heap.size = ybk at *
              have HTb := HTb0
              have HMy := HMy0
              have HPy := HPy0
              have HYb := HYb0
              have HBy := HBy0
              clear hwy hyk HTb0 HMy0 HPy0 HYb0 HBy0
              refine wp_region_inv [99, 100, 101, 102, 103, 104, 105, 106] (fun d s W => (d 0 = true → s 99 = .agg #[.int .i64 (R : Int), .int .i64 (k1 : Int), .slice (some ⟨gT, 0, none⟩) N1 cT]) ∧ (d 1 = true → s 100 = .agg #[.int .i64 (k1 : Int), .int .i64 (k2 : Int), .slice (some ⟨gY, 0, none⟩) N2 N2]) ∧ (d 2 = true → s 101 = .pointer (some ⟨tbk, 0, none⟩)) ∧ (d 3 = true → s 102 = .int .i64 (R : Int)) ∧ (d 4 = true → s 103 = .pointer (some ⟨ybk, 1, none⟩)) ∧ (d 5 = true → s 104 = .int .i64 (k2 : Int)) ∧ (d 6 = true → d 8 = false → TbG W (s 105) (fun T => T.length = N3) R k2 N3) ∧ (d 7 = true → d 8 = false → TbOw W (s 106) (TbP L R q N3) R k2 N3) ∧ (d 3 = true → d 2 = true) ∧ (d 5 = true → d 4 = true) ∧ (d 6 = true → d 2 = true ∧ d 3 = true ∧ d 4 = true ∧ d 5 = true) ∧ (d 7 = true → d 0 = true ∧ d 1 = true ∧ d 2 = true ∧ d 3 = true ∧ d 4 = true ∧ d 5 = true ∧ d 6 = true) ∧ (d 8 = true → d 0 = true ∧ d 1 = true ∧ d 2 = true ∧ d 3 = true ∧ d 4 = true ∧ d 5 = true ∧ d 6 = true ∧ d 7 = true) ∧ ((d 8 = false → Below wy.heap.size wy W) ∧ (d 8 = true → TbSt (TbP L R q N3) R k2 N3 tbk wy W)))
                rfl (by kernel_rfl) ?_ ?_ ?_
              · exact ⟨by simp, by simp, by simp, by simp, by simp, by simp, by simp, by simp, by simp, by simp, by simp, by simp, by simp, ⟨fun _ => (Below.refl _ _).drew, fun h => by simp at h⟩⟩
              · refine ⟨?_, ?_, ?_, ?_, ?_, ?_, ?_, ?_, ?_, trivial⟩
                all_goals
                  intro d s W hJ hfr hd hdep
                  simp only [List.mem_cons, forall_eq_or_imp, List.not_mem_nil, false_implies, implies_true, and_true, Region.binds] at hdep
                  have f8 := hfr 8 (by decide)
                  have f10 := hfr 10 (by decide)
                  simp at f8 f10 hdep
                  obtain ⟨h0, h1, h2, h3, h4, h5, h6, h7, x0, x1, x2, x3, x4, hT⟩ := hJ
                · have hl : d 8 = false := by
                    cases h : d 8
                    · rfl
                    · have := x4 h; simp [hd] at this
                  replace hT := hT.1 hl
                  unfold OpSteps
                  obtain ⟨p0, p1, p2⟩ := cells3v (HTb.out.below hT HTb.out.lt)
                  simp [go_sem, evS, f8, p0, p1, p2]
                  exact ⟨fun _ => by simp [sput], fun h => by simpa [sput] using h1 (by simpa [did] using h), fun h => by simpa [sput] using h2 (by simpa [did] using h), fun h => by simpa [sput] using h3 (by simpa [did] using h), fun h => by simpa [sput] using h4 (by simpa [did] using h), fun h => by simpa [sput] using h5 (by simpa [did] using h), fun h e => by simpa [sput] using (h6 (by simpa [did] using h) hl), fun h e => by simpa [sput] using (h7 (by simpa [did] using h) hl), fun h => by have := x0 (by simpa [did] using h); simp [did, this], fun h => by have := x1 (by simpa [did] using h); simp [did, this], fun h => by have := x2 (by simpa [did] using h); simp [did, this], fun h => by have := x3 (by simpa [did] using h); simp [did, this], fun h => by have := x4 (by simpa [did] using h); simp [did, this], ⟨fun _ => hT, fun h => by simp [did, hl] at h⟩⟩
                · have hl : d 8 = false := by
                    cases h : d 8
                    · rfl
                    · have := x4 h; simp [hd] at this
                  replace hT := hT.1 hl
                  unfold OpSteps
                  obtain ⟨p0, p1, p2⟩ := cells3v (HYb.out.below hT HYb.out.lt)
                  simp [go_sem, evS, f10, p0, p1, p2]
                  exact ⟨fun h => by simpa [sput] using h0 (by simpa [did] using h), fun _ => by simp [sput], fun h => by simpa [sput] using h2 (by simpa [did] using h), fun h => by simpa [sput] using h3 (by simpa [did] using h), fun h => by simpa [sput] using h4 (by simpa [did] using h), fun h => by simpa [sput] using h5 (by simpa [did] using h), fun h e => by simpa [sput] using (h6 (by simpa [did] using h) hl), fun h e => by simpa [sput] using (h7 (by simpa [did] using h) hl), fun h => by have := x0 (by simpa [did] using h); simp [did, this], fun h => by have := x1 (by simpa [did] using h); simp [did, this], fun h => by have := x2 (by simpa [did] using h); simp [did, this], fun h => by have := x3 (by simpa [did] using h); simp [did, this], fun h => by have := x4 (by simpa [did] using h); simp [did, this], ⟨fun _ => hT, fun h => by simp [did, hl] at h⟩⟩
                · have hl : d 8 = false := by
                    cases h : d 8
                    · rfl
                    · have := x4 h; simp [hd] at this
                  replace hT := hT.1 hl
                  unfold OpSteps
                  simp [go_sem, evS, f8]
                  exact ⟨fun h => by simpa [sput] using h0 (by simpa [did] using h), fun h => by simpa [sput] using h1 (by simpa [did] using h), fun _ => by simp [sput], fun h => by simpa [sput] using h3 (by simpa [did] using h), fun h => by simpa [sput] using h4 (by simpa [did] using h), fun h => by simpa [sput] using h5 (by simpa [did] using h), fun h e => by simpa [sput] using (h6 (by simpa [did] using h) hl), fun h e => by simpa [sput] using (h7 (by simpa [did] using h) hl), fun h => by have := x0 (by simpa [did] using h); simp [did, this], fun h => by have := x1 (by simpa [did] using h); simp [did, this], fun h => by have := x2 (by simpa [did] using h); simp [did, this], fun h => by have := x3 (by simpa [did] using h); simp [did, this], fun h => by have := x4 (by simpa [did] using h); simp [did, this], ⟨fun _ => hT, fun h => by simp [did, hl] at h⟩⟩
                · have hl : d 8 = false := by
                    cases h : d 8
                    · rfl
                    · have := x4 h; simp [hd] at this
                  replace hT := hT.1 hl
                  have g2 := h2 (by simp [hdep])
                  unfold OpSteps
                  obtain ⟨p0, p1, p2⟩ := cells3v (HTb.out.below hT HTb.out.lt)
                  simp [go_sem, evS, g2, p0, p1, p2]
                  exact ⟨fun h => by simpa [sput] using h0 (by simpa [did] using h), fun h => by simpa [sput] using h1 (by simpa [did] using h), fun h => by simpa [sput] using h2 (by simpa [did] using h), fun _ => by simp [sput], fun h => by simpa [sput] using h4 (by simpa [did] using h), fun h => by simpa [sput] using h5 (by simpa [did] using h), fun h e => by simpa [sput] using (h6 (by simpa [did] using h) hl), fun h e => by simpa [sput] using (h7 (by simpa [did] using h) hl), fun _ => by simp [did, hdep], fun h => by have := x1 (by simpa [did] using h); simp [did, this], fun h => by have := x2 (by simpa [did] using h); simp [did, this], fun h => by have := x3 (by simpa [did] using h); simp [did, this], fun h => by have := x4 (by simpa [did] using h); simp [did, this], ⟨fun _ => hT, fun h => by simp [did, hl] at h⟩⟩
                · have hl : d 8 = false := by
                    cases h : d 8
                    · rfl
                    · have := x4 h; simp [hd] at this
                  replace hT := hT.1 hl
                  unfold OpSteps
                  simp [go_sem, evS, f10]
                  exact ⟨fun h => by simpa [sput] using h0 (by simpa [did] using h), fun h => by simpa [sput] using h1 (by simpa [did] using h), fun h => by simpa [sput] using h2 (by simpa [did] using h), fun h => by simpa [sput] using h3 (by simpa [did] using h), fun _ => by simp [sput], fun h => by simpa [sput] using h5 (by simpa [did] using h), fun h e => by simpa [sput] using (h6 (by simpa [did] using h) hl), fun h e => by simpa [sput] using (h7 (by simpa [did] using h) hl), fun h => by have := x0 (by simpa [did] using h); simp [did, this], fun h => by have := x1 (by simpa [did] using h); simp [did, this], fun h => by have := x2 (by simpa [did] using h); simp [did, this], fun h => by have := x3 (by simpa [did] using h); simp [did, this], fun h => by have := x4 (by simpa [did] using h); simp [did, this], ⟨fun _ => hT, fun h => by simp [did, hl] at h⟩⟩
                · have hl : d 8 = false := by
                    cases h : d 8
                    · rfl
                    · have := x4 h; simp [hd] at this
                  replace hT := hT.1 hl
                  have g4 := h4 (by simp [hdep])
                  unfold OpSteps
                  obtain ⟨p0, p1, p2⟩ := cells3v (HYb.out.below hT HYb.out.lt)
                  simp [go_sem, evS, g4, p0, p1, p2]
                  exact ⟨fun h => by simpa [sput] using h0 (by simpa [did] using h), fun h => by simpa [sput] using h1 (by simpa [did] using h), fun h => by simpa [sput] using h2 (by simpa [did] using h), fun h => by simpa [sput] using h3 (by simpa [did] using h), fun h => by simpa [sput] using h4 (by simpa [did] using h), fun _ => by simp [sput], fun h e => by simpa [sput] using (h6 (by simpa [did] using h) hl), fun h e => by simpa [sput] using (h7 (by simpa [did] using h) hl), fun h => by have := x0 (by simpa [did] using h); simp [did, this], fun _ => by simp [did, hdep], fun h => by have := x2 (by simpa [did] using h); simp [did, this], fun h => by have := x3 (by simpa [did] using h); simp [did, this], fun h => by have := x4 (by simpa [did] using h); simp [did, this], ⟨fun _ => hT, fun h => by simp [did, hl] at h⟩⟩
                · have hl : d 8 = false := by
                    cases h : d 8
                    · rfl
                    · have := x4 h; simp [hd] at this
                  replace hT := hT.1 hl
                  have g3 := h3 (by simp [hdep])
                  have g5 := h5 (by simp [hdep])
                  unfold OpSteps
                  simp [go_sem, evS, g3, g5]
                  refine (HNew.out W).mono ?_
                  rintro e W' ⟨g9, T9, rfl, hl9, hr9, hb⟩
                  refine ⟨_, rfl, ?_⟩
                  exact ⟨fun h => by simpa [sput] using h0 (by simpa [did] using h), fun h => by simpa [sput] using h1 (by simpa [did] using h), fun h => by simpa [sput] using h2 (by simpa [did] using h), fun h => by simpa [sput] using h3 (by simpa [did] using h), fun h => by simpa [sput] using h4 (by simpa [did] using h), fun h => by simpa [sput] using h5 (by simpa [did] using h), fun _ => fun _ => ⟨g9, N3, T9, by simp [sput], hl9, hr9⟩, fun h e => by simpa [sput] using (h7 (by simpa [did] using h) hl).below hb, fun h => by have := x0 (by simpa [did] using h); simp [did, this], fun h => by have := x1 (by simpa [did] using h); simp [did, this], fun _ => by have y3 := x0 (by simp [hdep]); have y5 := x1 (by simp [hdep]); simp [did, hdep, y3, y5], fun h => by have := x3 (by simpa [did] using h); simp [did, this], fun h => by have := x4 (by simpa [did] using h); simp [did, this], ⟨fun _ => below_nx hT hb, fun h => by simp [did, hl] at h⟩⟩
                · have hl : d 8 = false := by
                    cases h : d 8
                    · rfl
                    · have := x4 h; simp [hd] at this
                  replace hT := hT.1 hl
                  have g0 := h0 (by simp [hdep])
                  have g1 := h1 (by simp [hdep])
                  have g6 := h6 (by simp [hdep])
                  unfold OpSteps
                  obtain ⟨q9, c9, Z9, gv9, gS9, gR9⟩ := g6 hl
                  simp [go_sem, evS, g0, g1, gv9]
                  refine (HRg.out q9 c9 Z9 W hT gS9 gR9).mono ?_
                  rintro e W' ⟨q9, c9, T9, rfl, hS9, hO9, hb⟩
                  refine ⟨_, rfl, ?_⟩
                  exact ⟨fun h => by simpa [sput] using h0 (by simpa [did] using h), fun h => by simpa [sput] using h1 (by simpa [did] using h), fun h => by simpa [sput] using h2 (by simpa [did] using h), fun h => by simpa [sput] using h3 (by simpa [did] using h), fun h => by simpa [sput] using h4 (by simpa [did] using h), fun h => by simpa [sput] using h5 (by simpa [did] using h), fun h e => by simpa [sput] using (h6 (by simpa [did] using h) hl).below hb, fun _ => fun _ => ⟨q9, c9, T9, by simp [sput], hS9, hO9⟩, fun h => by have := x0 (by simpa [did] using h); simp [did, this], fun h => by have := x1 (by simpa [did] using h); simp [did, this], fun h => by have := x2 (by simpa [did] using h); simp [did, this], fun _ => by have y6 := x2 (by simp [hdep]); simp [did, hdep, y6], fun h => by have := x4 (by simpa [did] using h); simp [did, this], ⟨fun _ => below_nx hT hb, fun h => by simp [did, hl] at h⟩⟩
                · have g7 := h7 (by simp [hdep])
                  unfold OpSteps
                  have hT0 := hT.1 hd
                  obtain ⟨q9, c9, T9, gv9, gS9, gO9⟩ := g7 hd
                  have hB9 := HTb.out.below hT0 HTb.out.lt
                  obtain ⟨fr0, fr1, fr2⟩ := frozen3v hB9
                  obtain ⟨k0, k1', k2'⟩ := cells3v hB9
                  simp [go_sem, evS, f8, gv9, fr0, fr1, fr2, k0, k1', k2']
                  exact ⟨fun h => by simpa [sput] using h0 (by simpa [did] using h), fun h => by simpa [sput] using h1 (by simpa [did] using h), fun h => by simpa [sput] using h2 (by simpa [did] using h), fun h => by simpa [sput] using h3 (by simpa [did] using h), fun h => by simpa [sput] using h4 (by simpa [did] using h), fun h => by simpa [sput] using h5 (by simpa [did] using h), fun h e => by simp [did] at e, fun h e => by simp [did] at e, fun h => by have := x0 (by simpa [did] using h); simp [did, this], fun h => by have := x1 (by simpa [did] using h); simp [did, this], fun h => by have := x2 (by simpa [did] using h); simp [did, this], fun h => by have := x3 (by simpa [did] using h); simp [did, this], fun _ => by have y7 := x3 (by simp [hdep]); simp [did, hdep, y7], ⟨fun h => by simp [did] at h, fun _ => ⟨W, q9, c9, T9, hT0, rfl, gS9, gO9⟩⟩⟩
              intro d s W hJ hd
              obtain ⟨h0, h1, h2, h3, h4, h5, h6, h7, x0, x1, x2, x3, x4, hT⟩ := hJ
              obtain ⟨W', g9, c9, T9, hbw, rfl, hS9, hO9⟩ := hT.2 (hd 8 (by decide))
              have HS9 := Lib.hid hS9
              have HO9 := Lib.hid hO9
              have HBw := Lib.hid hbw
              clear h0 h1 h2 h3 h4 h5 h6 h7 x0 x1 x2 x3 x4 hT hd hbw hS9 hO9
              simp [setAll]
              generalize s 99 = s99
              generalize s 100 = s100
              generalize s 101 = s101
              generalize s 102 = s102
              generalize s 103 = s103
              generalize s 104 = s104
              generalize s 105 = s105
              generalize s 106 = s106
              have hB9 := HTb.out.below HBw.out HTb.out.lt
              have HSe := Lib.hid (hB9.store3v (.int .i64 (R : Int)) (.int .i64 (k2 : Int)) (.slice (some ⟨g9, 0, none⟩) N3 c9))
              have HKe := Lib.hid (own3g HO9.out (own_ne HO9.out hB9 (by decide)) (.int .i64 (R : Int)) (.int .i64 (k2 : Int)) (.slice (some ⟨g9, 0, none⟩) N3 c9))
              have HMe := Lib.hid (blk3g (HMy.out.nxt HBw.out) (show mbk ≠ tbk by have := HNe.out; omega) (.int .i64 (R : Int)) (.int .i64 (k2 : Int)) (.slice (some ⟨g9, 0, none⟩) N3 c9))
              have HPe := Lib.hid (own3g (HPy.out.nxt HBw.out) (own_ne (HPy.out.nxt HBw.out) hB9 (by decide)) (.int .i64 (R : Int)) (.int .i64 (k2 : Int)) (.slice (some ⟨g9, 0, none⟩) N3 c9))
              have HBe := Lib.hid (below3g (below_nx HBy.out HBw.out) (show w.heap.size ≤ tbk by have := HNe.out; omega) (.int .i64 (R : Int)) (.int .i64 (k2 : Int)) (.slice (some ⟨g9, 0, none⟩) N3 c9))
              clear hB9
              go_wp2_with fail
              go_roundw
              case rel => exact ⟨q + 1, q, rfl, by omega, by go_num, by rw [HK2.out]; exact HNx.out _ _ _ _ HSe.out HS9.out HKe.out.row HMe.out HPe.out HBe.out⟩
              case measure => simp [intOf] <;> omega
            · obtain rfl : n = q := by omega
              have hqc : ¬ (n : Int) < (n : Int) := by omega
              have hqm : n - 1 = q1 := by omega
              rw [hqm] at p5 HPM0 HN90
              have hR20 : R ≤ 20 := by have h := HSz.out 0 hn0; rw [HR0.out] at h; exact h.1
              have hk20 := (HSz.out q1 (by omega)).2
              obtain ⟨k9, hk9⟩ : ∃ k, mk L q1 = k := ⟨_, rfl⟩
              unfold TbP at p3
              rw [hk9] at p1 p2 p3 p5 HPM0 HN90 hk20
              have hNN : N1 = N9 := p1.symm.trans HN90.out
              subst hNN
              have HN9 := Lib.hid p1
              have hN9b : N1 ≤ 400 := by
                have h1 : R * k9 ≤ 20 * 20 := Nat.mul_le_mul hR20 hk20
                omega
              have HPM := HPM0
              have HTP := Lib.hid p3
              have HMb := Lib.hid p5
              have HTb := Lib.hid p2
              have HBr := Lib.hid p7
              have hroom := dense_room p1 HD0.out
              have hDD := HD0.out
              have HGm := Lib.hid (fun W => show Calls Try.prog 16 #[.agg #[.slice (some ⟨gp, 0, none⟩) N1 N1, .int .i64 0, .int .i64 (R : Int), .int .i64 (k9 : Int), .int .i64 (D : Int)]] W fun e w' => e = .returned (.bool true) ∧ Below W.heap.size W w' from by
                have := rgood_any (some ⟨gp, 0, none⟩) N1 N1 0 R k9 D W (by omega) (by unfold I64; omega) (by unfold I64; omega) (by unfold I64; omega) (by unfold I64; omega)
                rw [show matB N1 0 (R : Int) (k9 : Int) (D : Int) = true from mat_right (o := 0) (by omega) (by omega) hroom] at this
                exact this)
              have HOm := Lib.hid (fun W (h : Below wr.heap.size wr W) => show Calls Try.prog 14 #[.agg #[.slice (some ⟨gp, 0, none⟩) N1 N1, .int .i64 0, .int .i64 (R : Int), .int .i64 (k9 : Int), .int .i64 (D : Int)]] W fun e w' => ∃ g T, e = .returned (.agg #[.int .i64 (R : Int), .int .i64 (k9 : Int), .slice (some ⟨g, 0, none⟩) N1 N1]) ∧ Tab M9 0 R k9 D N1 T ∧ Row w' (some ⟨g, 0, none⟩) (f64s T) ∧ Below W.heap.size W w' from by
                refine (rof_any (some ⟨gp, 0, none⟩) N1 N1 M9 0 R k9 D N1 W ((p6.nxt h).row) (by rw [HPM.out.1, HN9.out]) (by omega) HN9.out (by omega) (by omega) (by omega) hroom).mono ?_
                rintro e w' ⟨g, T, k1, k2, k3, _, k4⟩
                exact ⟨g, T, k1, k2, k3, k4⟩)
              have HAl := Lib.hid (fun (B : Option Addr) (d : Nat) (T9 : List Nat) (W : World) (h : Below wr.heap.size wr W) (hT9 : Tab M9 0 R k9 D N1 T9) (hR9 : Row W B (f64s T9)) => show Calls Try.prog 11 #[.slice B N1 d, .slice (some ⟨gT, 0, none⟩) N1 cT] W fun e w' => e = .returned (.bool true) ∧ Below W.heap.size W w' from by
                have hal : Alike T9 T := show Alike T9 T from by
                  have hl : T9.length = T.length := by rw [hT9.1, HTP.out.1, HN9.out]
                  refine ⟨hl, fun x hx hx2 => ?_⟩
                  rw [← getD_of_lt hx, ← getD_of_lt hx2]
                  have hx3 : x < R * k9 := by rw [hT9.1] at hx; exact hx
                  have hk0 : 0 < k9 := by
                    rcases Nat.eq_zero_or_pos k9 with e | e
                    · rw [e] at hx3; omega
                    · exact e
                  have e2 : x = x / k9 * k9 + x % k9 := by rw [Nat.mul_comm]; exact (Nat.div_add_mod x k9).symm
                  have ha : x / k9 < R := Nat.div_lt_of_lt_mul (by rw [Nat.mul_comm]; exact hx3)
                  have hb := Nat.mod_lt x hk0
                  rw [e2, tab_get hT9 HN9.out ha hb]
                  exact (HPM.out.2.2 _ ha _ hb).same (HTP.out.2 _ ha _ hb)
                have hw1 : Wds T9 := tab_wdse hT9 HN9.out HPM.out.2.1
                have hw2 : Wds T := wds_of_getDe (fun x hx => by
                  have hx3 : x < R * k9 := by rw [HTP.out.1, ← HN9.out] at hx; exact hx
                  have hk0 : 0 < k9 := by
                    rcases Nat.eq_zero_or_pos k9 with e | e
                    · rw [e] at hx3; omega
                    · exact e
                  have e2 : x = x / k9 * k9 + x % k9 := by rw [Nat.mul_comm]; exact (Nat.div_add_mod x k9).symm
                  rw [e2]
                  exact (HTP.out.2 _ (Nat.div_lt_of_lt_mul (by rw [Nat.mul_comm]; exact hx3)) _ (Nat.mod_lt x hk0)).lt)
                have := rall_any B (some ⟨gT, 0, none⟩) d cT T9 T W hw1 hw2 hR9 (p4.below h) (by rw [hT9.1, HN9.out]; omega) hal
                rw [hT9.1, HN9.out, HTP.out.1] at this
                exact this)
              clear p1 p2 p3 p4 p5 p6 p7 hroom hDD hqm hk9 hR20 hk20 hN9b HH
              go_wp2_with fail
              refine wp_region_invG [107, 108, 109, 110, 111, 112, 113, 114, 115, 116, 117, 118, 119, 120, 121, 122, 123, 124, 125, 126, 127, 128, 129, 130, 131, 132, 133, 134, 135, 136, 137, 2] (fun d s W => (d 0 = true → s 107 = .int .i64 0) ∧ (d 1 = true → s 108 = .bool true) ∧ (d 2 = true → s 109 = .bool true) ∧ (d 3 = true → s 110 = .agg #[.slice (some ⟨gp, 0, none⟩) N1 N1, .int .i64 0, .int .i64 (R : Int), .int .i64 (k9 : Int), .int .i64 (D : Int)]) ∧ (d 4 = true → s 111 = .bool true) ∧ (d 5 = true → s 112 = .bool true) ∧ (d 6 = true → s 113 = .bool true) ∧ (d 7 = true → s 114 = .pointer (some ⟨mbk, 2, none⟩)) ∧ (d 8 = true → s 115 = .int .i64 (R : Int)) ∧ (d 9 = true → s 116 = .pointer (some ⟨tbk, 0, none⟩)) ∧ (d 10 = true → s 117 = .int .i64 (R : Int)) ∧ (d 11 = true → s 118 = .bool true) ∧ (d 12 = true → s 119 = .bool true) ∧ (d 13 = true → s 120 = .bool true) ∧ (d 14 = true → s 121 = .pointer (some ⟨mbk, 3, none⟩)) ∧ (d 15 = true → s 122 = .int .i64 (k9 : Int)) ∧ (d 16 = true → s 123 = .pointer (some ⟨tbk, 1, none⟩)) ∧ (d 17 = true → s 124 = .int .i64 (k9 : Int)) ∧ (d 18 = true → s 125 = .bool true) ∧ (d 19 = true → s 126 = .bool true) ∧ (d 20 = true → s 127 = .bool true) ∧ (d 21 = true → s 128 = .agg #[.slice (some ⟨gp, 0, none⟩) N1 N1, .int .i64 0, .int .i64 (R : Int), .int .i64 (k9 : Int), .int .i64 (D : Int)]) ∧ (d 22 = true → TbG W (s 129) (Tab M9 0 R k9 D N1) R k9 N1) ∧ (d 23 = true → SlG W (s 130) (Tab M9 0 R k9 D N1) N1) ∧ (d 24 = true → s 131 = .pointer (some ⟨tbk, 2, none⟩)) ∧ (d 25 = true → s 132 = .slice (some ⟨gT, 0, none⟩) N1 cT) ∧ (d 26 = true → s 133 = .bool true) ∧ (d 27 = true → s 134 = .bool true) ∧ (d 28 = true → s 135 = .bool true) ∧ (d 29 = true → s 136 = .bool true) ∧ (d 30 = true → s 137 = .bool true) ∧ (d 31 = true → s 2 = .bool true) ∧ Below wr.heap.size wr W)
                rfl (by kernel_rfl) ?_ ?_ ?_
              · exact ⟨by simp, by simp, by simp, by simp, by simp, by simp, by simp, by simp, by simp, by simp, by simp, by simp, by simp, by simp, by simp, by simp, by simp, by simp, by simp, by simp, by simp, by simp, by simp, by simp, by simp, by simp, by simp, by simp, by simp, by simp, by simp, by simp, (Below.refl _ _).drew⟩
              · refine ⟨?_, ?_, ?_, ?_, ?_, ?_, ?_, ?_, ?_, ?_, ?_, ?_, ?_, ?_, ?_, ?_, ?_, ?_, ?_, ?_, ?_, ?_, ?_, ?_, ?_, ?_, ?_, ?_, ?_, ?_, ?_, ?_, trivial⟩
                all_goals
                  intro d s W hJ hfr hd hdep
                  simp only [List.mem_cons, forall_eq_or_imp, List.not_mem_nil, false_implies, implies_true, and_true, Region.binds] at hdep
                  have f6 := hfr 6 (by decide)
                  have f7 := hfr 7 (by decide)
                  have f8 := hfr 8 (by decide)
                  simp at f6 f7 f8 hdep
                  obtain ⟨h0, h1, h2, h3, h4, h5, h6, h7, h8, h9, h10, h11, h12, h13, h14, h15, h16, h17, h18, h19, h20, h21, h22, h23, h24, h25, h26, h27, h28, h29, h30, h31, hT⟩ := hJ
                · as_aux_lemma =>
                    refine stepG_plain rfl ?_
                    unfold OpSteps
                    simp [go_sem, evS, f7]
                    exact ⟨fun _ => by simp [sput], kpw h1, kpw h2, kpw h3, kpw h4, kpw h5, kpw h6, kpw h7, kpw h8, kpw h9, kpw h10, kpw h11, kpw h12, kpw h13, kpw h14, kpw h15, kpw h16, kpw h17, kpw h18, kpw h19, kpw h20, kpw h21, fun h => by simpa [sput] using h22 (by simpa [did] using h), fun h => by simpa [sput] using h23 (by simpa [did] using h), kpw h24, kpw h25, kpw h26, kpw h27, kpw h28, kpw h29, kpw h30, kpw h31, hT⟩
                · as_aux_lemma =>
                    have g0 := h0 (by simp [hdep])
                    refine stepG_plain rfl ?_
                    unfold OpSteps
                    simp [go_sem, evS, g0]
                    exact ⟨kpw h0, fun _ => by simp [sput], kpw h2, kpw h3, kpw h4, kpw h5, kpw h6, kpw h7, kpw h8, kpw h9, kpw h10, kpw h11, kpw h12, kpw h13, kpw h14, kpw h15, kpw h16, kpw h17, kpw h18, kpw h19, kpw h20, kpw h21, fun h => by simpa [sput] using h22 (by simpa [did] using h), fun h => by simpa [sput] using h23 (by simpa [did] using h), kpw h24, kpw h25, kpw h26, kpw h27, kpw h28, kpw h29, kpw h30, kpw h31, hT⟩
                · as_aux_lemma =>
                    have g1 := h1 (by simp [hdep])
                    refine stepG_plain rfl ?_
                    unfold OpSteps
                    simp [go_sem, evS, g1]
                    exact ⟨kpw h0, kpw h1, fun _ => by simp [sput], kpw h3, kpw h4, kpw h5, kpw h6, kpw h7, kpw h8, kpw h9, kpw h10, kpw h11, kpw h12, kpw h13, kpw h14, kpw h15, kpw h16, kpw h17, kpw h18, kpw h19, kpw h20, kpw h21, fun h => by simpa [sput] using h22 (by simpa [did] using h), fun h => by simpa [sput] using h23 (by simpa [did] using h), kpw h24, kpw h25, kpw h26, kpw h27, kpw h28, kpw h29, kpw h30, kpw h31, hT⟩
                · as_aux_lemma =>
                    have g2 := h2 (by simp [hdep])
                    refine stepG_on 2 109 true rfl rfl g2 ?_
                    unfold OpSteps
                    obtain ⟨p0, p1, p2, p3, p4⟩ := cells5 (HMb.out.below hT HMb.out.lt)
                    simp [go_sem, evS, f6, g2, p0, p1, p2, p3, p4]
                    exact ⟨kpw h0, kpw h1, kpw h2, fun _ => by simp [sput], kpw h4, kpw h5, kpw h6, kpw h7, kpw h8, kpw h9, kpw h10, kpw h11, kpw h12, kpw h13, kpw h14, kpw h15, kpw h16, kpw h17, kpw h18, kpw h19, kpw h20, kpw h21, fun h => by simpa [sput] using h22 (by simpa [did] using h), fun h => by simpa [sput] using h23 (by simpa [did] using h), kpw h24, kpw h25, kpw h26, kpw h27, kpw h28, kpw h29, kpw h30, kpw h31, hT⟩
                · as_aux_lemma =>
                    have g3 := h3 (by simp [hdep])
                    have g2 := h2 (by simp [hdep])
                    refine stepG_on 2 109 true rfl rfl g2 ?_
                    unfold OpSteps
                    simp [go_sem, evS, g3, g2]
                    refine (HGm.out W).mono ?_
                    rintro e W' ⟨rfl, hb⟩
                    refine ⟨_, rfl, ?_⟩
                    exact ⟨kpw h0, kpw h1, kpw h2, kpw h3, fun _ => by simp [sput], kpw h5, kpw h6, kpw h7, kpw h8, kpw h9, kpw h10, kpw h11, kpw h12, kpw h13, kpw h14, kpw h15, kpw h16, kpw h17, kpw h18, kpw h19, kpw h20, kpw h21, fun h => by simpa [sput] using (h22 (by simpa [did] using h)).below hb, fun h => by simpa [sput] using (h23 (by simpa [did] using h)).below hb, kpw h24, kpw h25, kpw h26, kpw h27, kpw h28, kpw h29, kpw h30, kpw h31, below_nx hT hb⟩
                · as_aux_lemma =>
                    have g2 := h2 (by simp [hdep])
                    have g4 := h4 (by simp [hdep])
                    refine stepG_plain rfl ?_
                    unfold OpSteps
                    simp [go_sem, evS, g2, g4]
                    exact ⟨kpw h0, kpw h1, kpw h2, kpw h3, kpw h4, fun _ => by simp [sput], kpw h6, kpw h7, kpw h8, kpw h9, kpw h10, kpw h11, kpw h12, kpw h13, kpw h14, kpw h15, kpw h16, kpw h17, kpw h18, kpw h19, kpw h20, kpw h21, fun h => by simpa [sput] using h22 (by simpa [did] using h), fun h => by simpa [sput] using h23 (by simpa [did] using h), kpw h24, kpw h25, kpw h26, kpw h27, kpw h28, kpw h29, kpw h30, kpw h31, hT⟩
                · as_aux_lemma =>
                    have g5 := h5 (by simp [hdep])
                    refine stepG_plain rfl ?_
                    unfold OpSteps
                    simp [go_sem, evS, g5]
                    exact ⟨kpw h0, kpw h1, kpw h2, kpw h3, kpw h4, kpw h5, fun _ => by simp [sput], kpw h7, kpw h8, kpw h9, kpw h10, kpw h11, kpw h12, kpw h13, kpw h14, kpw h15, kpw h16, kpw h17, kpw h18, kpw h19, kpw h20, kpw h21, fun h => by simpa [sput] using h22 (by simpa [did] using h), fun h => by simpa [sput] using h23 (by simpa [did] using h), kpw h24, kpw h25, kpw h26, kpw h27, kpw h28, kpw h29, kpw h30, kpw h31, hT⟩
                · as_aux_lemma =>
                    have g6 := h6 (by simp [hdep])
                    refine stepG_on 6 113 true rfl rfl g6 ?_
                    unfold OpSteps
                    simp [go_sem, evS, f6, g6]
                    exact ⟨kpw h0, kpw h1, kpw h2, kpw h3, kpw h4, kpw h5, kpw h6, fun _ => by simp [sput], kpw h8, kpw h9, kpw h10, kpw h11, kpw h12, kpw h13, kpw h14, kpw h15, kpw h16, kpw h17, kpw h18, kpw h19, kpw h20, kpw h21, fun h => by simpa [sput] using h22 (by simpa [did] using h), fun h => by simpa [sput] using h23 (by simpa [did] using h), kpw h24, kpw h25, kpw h26, kpw h27, kpw h28, kpw h29, kpw h30, kpw h31, hT⟩
                · as_aux_lemma =>
                    have g7 := h7 (by simp [hdep])
                    have g6 := h6 (by simp [hdep])
                    refine stepG_on 6 113 true rfl rfl g6 ?_
                    unfold OpSteps
                    obtain ⟨p0, p1, p2, p3, p4⟩ := cells5 (HMb.out.below hT HMb.out.lt)
                    simp [go_sem, evS, g7, g6, p0, p1, p2, p3, p4]
                    exact ⟨kpw h0, kpw h1, kpw h2, kpw h3, kpw h4, kpw h5, kpw h6, kpw h7, fun _ => by simp [sput], kpw h9, kpw h10, kpw h11, kpw h12, kpw h13, kpw h14, kpw h15, kpw h16, kpw h17, kpw h18, kpw h19, kpw h20, kpw h21, fun h => by simpa [sput] using h22 (by simpa [did] using h), fun h => by simpa [sput] using h23 (by simpa [did] using h), kpw h24, kpw h25, kpw h26, kpw h27, kpw h28, kpw h29, kpw h30, kpw h31, hT⟩
                · as_aux_lemma =>
                    have g6 := h6 (by simp [hdep])
                    refine stepG_on 6 113 true rfl rfl g6 ?_
                    unfold OpSteps
                    simp [go_sem, evS, f8, g6]
                    exact ⟨kpw h0, kpw h1, kpw h2, kpw h3, kpw h4, kpw h5, kpw h6, kpw h7, kpw h8, fun _ => by simp [sput], kpw h10, kpw h11, kpw h12, kpw h13, kpw h14, kpw h15, kpw h16, kpw h17, kpw h18, kpw h19, kpw h20, kpw h21, fun h => by simpa [sput] using h22 (by simpa [did] using h), fun h => by simpa [sput] using h23 (by simpa [did] using h), kpw h24, kpw h25, kpw h26, kpw h27, kpw h28, kpw h29, kpw h30, kpw h31, hT⟩
                · as_aux_lemma =>
                    have g9 := h9 (by simp [hdep])
                    have g6 := h6 (by simp [hdep])
                    refine stepG_on 6 113 true rfl rfl g6 ?_
                    unfold OpSteps
                    obtain ⟨p0, p1, p2⟩ := cells3v (HTb.out.below hT HTb.out.lt)
                    simp [go_sem, evS, g9, g6, p0, p1, p2]
                    exact ⟨kpw h0, kpw h1, kpw h2, kpw h3, kpw h4, kpw h5, kpw h6, kpw h7, kpw h8, kpw h9, fun _ => by simp [sput], kpw h11, kpw h12, kpw h13, kpw h14, kpw h15, kpw h16, kpw h17, kpw h18, kpw h19, kpw h20, kpw h21, fun h => by simpa [sput] using h22 (by simpa [did] using h), fun h => by simpa [sput] using h23 (by simpa [did] using h), kpw h24, kpw h25, kpw h26, kpw h27, kpw h28, kpw h29, kpw h30, kpw h31, hT⟩
                · as_aux_lemma =>
                    have g8 := h8 (by simp [hdep])
                    have g10 := h10 (by simp [hdep])
                    have g6 := h6 (by simp [hdep])
                    refine stepG_on 6 113 true rfl rfl g6 ?_
                    unfold OpSteps
                    simp [go_sem, evS, g8, g10, g6]
                    exact ⟨kpw h0, kpw h1, kpw h2, kpw h3, kpw h4, kpw h5, kpw h6, kpw h7, kpw h8, kpw h9, kpw h10, fun _ => by simp [sput], kpw h12, kpw h13, kpw h14, kpw h15, kpw h16, kpw h17, kpw h18, kpw h19, kpw h20, kpw h21, fun h => by simpa [sput] using h22 (by simpa [did] using h), fun h => by simpa [sput] using h23 (by simpa [did] using h), kpw h24, kpw h25, kpw h26, kpw h27, kpw h28, kpw h29, kpw h30, kpw h31, hT⟩
                · as_aux_lemma =>
                    have g6 := h6 (by simp [hdep])
                    have g11 := h11 (by simp [hdep])
                    refine stepG_plain rfl ?_
                    unfold OpSteps
                    simp [go_sem, evS, g6, g11]
                    exact ⟨kpw h0, kpw h1, kpw h2, kpw h3, kpw h4, kpw h5, kpw h6, kpw h7, kpw h8, kpw h9, kpw h10, kpw h11, fun _ => by simp [sput], kpw h13, kpw h14, kpw h15, kpw h16, kpw h17, kpw h18, kpw h19, kpw h20, kpw h21, fun h => by simpa [sput] using h22 (by simpa [did] using h), fun h => by simpa [sput] using h23 (by simpa [did] using h), kpw h24, kpw h25, kpw h26, kpw h27, kpw h28, kpw h29, kpw h30, kpw h31, hT⟩
                · as_aux_lemma =>
                    have g12 := h12 (by simp [hdep])
                    refine stepG_plain rfl ?_
                    unfold OpSteps
                    simp [go_sem, evS, g12]
                    exact ⟨kpw h0, kpw h1, kpw h2, kpw h3, kpw h4, kpw h5, kpw h6, kpw h7, kpw h8, kpw h9, kpw h10, kpw h11, kpw h12, fun _ => by simp [sput], kpw h14, kpw h15, kpw h16, kpw h17, kpw h18, kpw h19, kpw h20, kpw h21, fun h => by simpa [sput] using h22 (by simpa [did] using h), fun h => by simpa [sput] using h23 (by simpa [did] using h), kpw h24, kpw h25, kpw h26, kpw h27, kpw h28, kpw h29, kpw h30, kpw h31, hT⟩
                · as_aux_lemma =>
                    have g13 := h13 (by simp [hdep])
                    refine stepG_on 13 120 true rfl rfl g13 ?_
                    unfold OpSteps
                    simp [go_sem, evS, f6, g13]
                    exact ⟨kpw h0, kpw h1, kpw h2, kpw h3, kpw h4, kpw h5, kpw h6, kpw h7, kpw h8, kpw h9, kpw h10, kpw h11, kpw h12, kpw h13, fun _ => by simp [sput], kpw h15, kpw h16, kpw h17, kpw h18, kpw h19, kpw h20, kpw h21, fun h => by simpa [sput] using h22 (by simpa [did] using h), fun h => by simpa [sput] using h23 (by simpa [did] using h), kpw h24, kpw h25, kpw h26, kpw h27, kpw h28, kpw h29, kpw h30, kpw h31, hT⟩
                · as_aux_lemma =>
                    have g14 := h14 (by simp [hdep])
                    have g13 := h13 (by simp [hdep])
                    refine stepG_on 13 120 true rfl rfl g13 ?_
                    unfold OpSteps
                    obtain ⟨p0, p1, p2, p3, p4⟩ := cells5 (HMb.out.below hT HMb.out.lt)
                    simp [go_sem, evS, g14, g13, p0, p1, p2, p3, p4]
                    exact ⟨kpw h0, kpw h1, kpw h2, kpw h3, kpw h4, kpw h5, kpw h6, kpw h7, kpw h8, kpw h9, kpw h10, kpw h11, kpw h12, kpw h13, kpw h14, fun _ => by simp [sput], kpw h16, kpw h17, kpw h18, kpw h19, kpw h20, kpw h21, fun h => by simpa [sput] using h22 (by simpa [did] using h), fun h => by simpa [sput] using h23 (by simpa [did] using h), kpw h24, kpw h25, kpw h26, kpw h27, kpw h28, kpw h29, kpw h30, kpw h31, hT⟩
                · as_aux_lemma =>
                    have g13 := h13 (by simp [hdep])
                    refine stepG_on 13 120 true rfl rfl g13 ?_
                    unfold OpSteps
                    simp [go_sem, evS, f8, g13]
                    exact ⟨kpw h0, kpw h1, kpw h2, kpw h3, kpw h4, kpw h5, kpw h6, kpw h7, kpw h8, kpw h9, kpw h10, kpw h11, kpw h12, kpw h13, kpw h14, kpw h15, fun _ => by simp [sput], kpw h17, kpw h18, kpw h19, kpw h20, kpw h21, fun h => by simpa [sput] using h22 (by simpa [did] using h), fun h => by simpa [sput] using h23 (by simpa [did] using h), kpw h24, kpw h25, kpw h26, kpw h27, kpw h28, kpw h29, kpw h30, kpw h31, hT⟩
                · as_aux_lemma =>
                    have g16 := h16 (by simp [hdep])
                    have g13 := h13 (by simp [hdep])
                    refine stepG_on 13 120 true rfl rfl g13 ?_
                    unfold OpSteps
                    obtain ⟨p0, p1, p2⟩ := cells3v (HTb.out.below hT HTb.out.lt)
                    simp [go_sem, evS, g16, g13, p0, p1, p2]
                    exact ⟨kpw h0, kpw h1, kpw h2, kpw h3, kpw h4, kpw h5, kpw h6, kpw h7, kpw h8, kpw h9, kpw h10, kpw h11, kpw h12, kpw h13, kpw h14, kpw h15, kpw h16, fun _ => by simp [sput], kpw h18, kpw h19, kpw h20, kpw h21, fun h => by simpa [sput] using h22 (by simpa [did] using h), fun h => by simpa [sput] using h23 (by simpa [did] using h), kpw h24, kpw h25, kpw h26, kpw h27, kpw h28, kpw h29, kpw h30, kpw h31, hT⟩
                · as_aux_lemma =>
                    have g15 := h15 (by simp [hdep])
                    have g17 := h17 (by simp [hdep])
                    have g13 := h13 (by simp [hdep])
                    refine stepG_on 13 120 true rfl rfl g13 ?_
                    unfold OpSteps
                    simp [go_sem, evS, g15, g17, g13]
                    exact ⟨kpw h0, kpw h1, kpw h2, kpw h3, kpw h4, kpw h5, kpw h6, kpw h7, kpw h8, kpw h9, kpw h10, kpw h11, kpw h12, kpw h13, kpw h14, kpw h15, kpw h16, kpw h17, fun _ => by simp [sput], kpw h19, kpw h20, kpw h21, fun h => by simpa [sput] using h22 (by simpa [did] using h), fun h => by simpa [sput] using h23 (by simpa [did] using h), kpw h24, kpw h25, kpw h26, kpw h27, kpw h28, kpw h29, kpw h30, kpw h31, hT⟩
                · as_aux_lemma =>
                    have g13 := h13 (by simp [hdep])
                    have g18 := h18 (by simp [hdep])
                    refine stepG_plain rfl ?_
                    unfold OpSteps
                    simp [go_sem, evS, g13, g18]
                    exact ⟨kpw h0, kpw h1, kpw h2, kpw h3, kpw h4, kpw h5, kpw h6, kpw h7, kpw h8, kpw h9, kpw h10, kpw h11, kpw h12, kpw h13, kpw h14, kpw h15, kpw h16, kpw h17, kpw h18, fun _ => by simp [sput], kpw h20, kpw h21, fun h => by simpa [sput] using h22 (by simpa [did] using h), fun h => by simpa [sput] using h23 (by simpa [did] using h), kpw h24, kpw h25, kpw h26, kpw h27, kpw h28, kpw h29, kpw h30, kpw h31, hT⟩
                · as_aux_lemma =>
                    have g19 := h19 (by simp [hdep])
                    refine stepG_plain rfl ?_
                    unfold OpSteps
                    simp [go_sem, evS, g19]
                    exact ⟨kpw h0, kpw h1, kpw h2, kpw h3, kpw h4, kpw h5, kpw h6, kpw h7, kpw h8, kpw h9, kpw h10, kpw h11, kpw h12, kpw h13, kpw h14, kpw h15, kpw h16, kpw h17, kpw h18, kpw h19, fun _ => by simp [sput], kpw h21, fun h => by simpa [sput] using h22 (by simpa [did] using h), fun h => by simpa [sput] using h23 (by simpa [did] using h), kpw h24, kpw h25, kpw h26, kpw h27, kpw h28, kpw h29, kpw h30, kpw h31, hT⟩
                · as_aux_lemma =>
                    have g20 := h20 (by simp [hdep])
                    refine stepG_on 20 127 true rfl rfl g20 ?_
                    unfold OpSteps
                    obtain ⟨p0, p1, p2, p3, p4⟩ := cells5 (HMb.out.below hT HMb.out.lt)
                    simp [go_sem, evS, f6, g20, p0, p1, p2, p3, p4]
                    exact ⟨kpw h0, kpw h1, kpw h2, kpw h3, kpw h4, kpw h5, kpw h6, kpw h7, kpw h8, kpw h9, kpw h10, kpw h11, kpw h12, kpw h13, kpw h14, kpw h15, kpw h16, kpw h17, kpw h18, kpw h19, kpw h20, fun _ => by simp [sput], fun h => by simpa [sput] using h22 (by simpa [did] using h), fun h => by simpa [sput] using h23 (by simpa [did] using h), kpw h24, kpw h25, kpw h26, kpw h27, kpw h28, kpw h29, kpw h30, kpw h31, hT⟩
                · as_aux_lemma =>
                    have g21 := h21 (by simp [hdep])
                    have g20 := h20 (by simp [hdep])
                    refine stepG_on 20 127 true rfl rfl g20 ?_
                    unfold OpSteps
                    simp [go_sem, evS, g21, g20]
                    refine (HOm.out W hT).mono ?_
                    rintro e W' ⟨g9, T9, rfl, hS9, hr9, hb⟩
                    refine ⟨_, rfl, ?_⟩
                    exact ⟨kpw h0, kpw h1, kpw h2, kpw h3, kpw h4, kpw h5, kpw h6, kpw h7, kpw h8, kpw h9, kpw h10, kpw h11, kpw h12, kpw h13, kpw h14, kpw h15, kpw h16, kpw h17, kpw h18, kpw h19, kpw h20, kpw h21, fun _ => ⟨g9, N1, T9, by simp [sput], hS9, hr9⟩, fun h => by simpa [sput] using (h23 (by simpa [did] using h)).below hb, kpw h24, kpw h25, kpw h26, kpw h27, kpw h28, kpw h29, kpw h30, kpw h31, below_nx hT hb⟩
                · as_aux_lemma =>
                    have g22 := h22 (by simp [hdep])
                    have g20 := h20 (by simp [hdep])
                    refine stepG_on 20 127 true rfl rfl g20 ?_
                    unfold OpSteps
                    obtain ⟨q9, c9, T9, gv9, gS9, gR9⟩ := g22
                    simp [go_sem, evS, g20, gv9]
                    exact ⟨kpw h0, kpw h1, kpw h2, kpw h3, kpw h4, kpw h5, kpw h6, kpw h7, kpw h8, kpw h9, kpw h10, kpw h11, kpw h12, kpw h13, kpw h14, kpw h15, kpw h16, kpw h17, kpw h18, kpw h19, kpw h20, kpw h21, fun h => by simpa [sput] using h22 (by simpa [did] using h), fun _ => ⟨some ⟨q9, 0, none⟩, c9, T9, by simp [sput], gS9, gR9⟩, kpw h24, kpw h25, kpw h26, kpw h27, kpw h28, kpw h29, kpw h30, kpw h31, hT⟩
                · as_aux_lemma =>
                    have g20 := h20 (by simp [hdep])
                    refine stepG_on 20 127 true rfl rfl g20 ?_
                    unfold OpSteps
                    simp [go_sem, evS, f8, g20]
                    exact ⟨kpw h0, kpw h1, kpw h2, kpw h3, kpw h4, kpw h5, kpw h6, kpw h7, kpw h8, kpw h9, kpw h10, kpw h11, kpw h12, kpw h13, kpw h14, kpw h15, kpw h16, kpw h17, kpw h18, kpw h19, kpw h20, kpw h21, fun h => by simpa [sput] using h22 (by simpa [did] using h), fun h => by simpa [sput] using h23 (by simpa [did] using h), fun _ => by simp [sput], kpw h25, kpw h26, kpw h27, kpw h28, kpw h29, kpw h30, kpw h31, hT⟩
                · as_aux_lemma =>
                    have g24 := h24 (by simp [hdep])
                    have g20 := h20 (by simp [hdep])
                    refine stepG_on 20 127 true rfl rfl g20 ?_
                    unfold OpSteps
                    obtain ⟨p0, p1, p2⟩ := cells3v (HTb.out.below hT HTb.out.lt)
                    simp [go_sem, evS, g24, g20, p0, p1, p2]
                    exact ⟨kpw h0, kpw h1, kpw h2, kpw h3, kpw h4, kpw h5, kpw h6, kpw h7, kpw h8, kpw h9, kpw h10, kpw h11, kpw h12, kpw h13, kpw h14, kpw h15, kpw h16, kpw h17, kpw h18, kpw h19, kpw h20, kpw h21, fun h => by simpa [sput] using h22 (by simpa [did] using h), fun h => by simpa [sput] using h23 (by simpa [did] using h), kpw h24, fun _ => by simp [sput], kpw h26, kpw h27, kpw h28, kpw h29, kpw h30, kpw h31, hT⟩
                · as_aux_lemma =>
                    have g23 := h23 (by simp [hdep])
                    have g25 := h25 (by simp [hdep])
                    have g20 := h20 (by simp [hdep])
                    refine stepG_on 20 127 true rfl rfl g20 ?_
                    unfold OpSteps
                    obtain ⟨B9, d9, T9, gv9, gS9, gR9⟩ := g23
                    simp [go_sem, evS, g25, g20, gv9]
                    refine (HAl.out B9 d9 T9 W hT gS9 gR9).mono ?_
                    rintro e W' ⟨rfl, hb⟩
                    refine ⟨_, rfl, ?_⟩
                    exact ⟨kpw h0, kpw h1, kpw h2, kpw h3, kpw h4, kpw h5, kpw h6, kpw h7, kpw h8, kpw h9, kpw h10, kpw h11, kpw h12, kpw h13, kpw h14, kpw h15, kpw h16, kpw h17, kpw h18, kpw h19, kpw h20, kpw h21, fun h => by simpa [sput] using (h22 (by simpa [did] using h)).below hb, fun h => by simpa [sput] using (h23 (by simpa [did] using h)).below hb, kpw h24, kpw h25, fun _ => by simp [sput], kpw h27, kpw h28, kpw h29, kpw h30, kpw h31, below_nx hT hb⟩
                · as_aux_lemma =>
                    have g20 := h20 (by simp [hdep])
                    have g26 := h26 (by simp [hdep])
                    refine stepG_plain rfl ?_
                    unfold OpSteps
                    simp [go_sem, evS, g20, g26]
                    exact ⟨kpw h0, kpw h1, kpw h2, kpw h3, kpw h4, kpw h5, kpw h6, kpw h7, kpw h8, kpw h9, kpw h10, kpw h11, kpw h12, kpw h13, kpw h14, kpw h15, kpw h16, kpw h17, kpw h18, kpw h19, kpw h20, kpw h21, fun h => by simpa [sput] using h22 (by simpa [did] using h), fun h => by simpa [sput] using h23 (by simpa [did] using h), kpw h24, kpw h25, kpw h26, fun _ => by simp [sput], kpw h28, kpw h29, kpw h30, kpw h31, hT⟩
                · as_aux_lemma =>
                    have g27 := h27 (by simp [hdep])
                    refine stepG_plain rfl ?_
                    unfold OpSteps
                    simp [go_sem, evS, g27]
                    exact ⟨kpw h0, kpw h1, kpw h2, kpw h3, kpw h4, kpw h5, kpw h6, kpw h7, kpw h8, kpw h9, kpw h10, kpw h11, kpw h12, kpw h13, kpw h14, kpw h15, kpw h16, kpw h17, kpw h18, kpw h19, kpw h20, kpw h21, fun h => by simpa [sput] using h22 (by simpa [did] using h), fun h => by simpa [sput] using h23 (by simpa [did] using h), kpw h24, kpw h25, kpw h26, kpw h27, fun _ => by simp [sput], kpw h29, kpw h30, kpw h31, hT⟩
                · as_aux_lemma =>
                    have g28 := h28 (by simp [hdep])
                    refine stepG_on 28 135 true rfl rfl g28 ?_
                    unfold OpSteps
                    simp [go_sem, evS, g28]
                    refine (awake11_any W).mono ?_
                    rintro e W' ⟨rfl, hb⟩
                    refine ⟨_, rfl, ?_⟩
                    exact ⟨kpw h0, kpw h1, kpw h2, kpw h3, kpw h4, kpw h5, kpw h6, kpw h7, kpw h8, kpw h9, kpw h10, kpw h11, kpw h12, kpw h13, kpw h14, kpw h15, kpw h16, kpw h17, kpw h18, kpw h19, kpw h20, kpw h21, fun h => by simpa [sput] using (h22 (by simpa [did] using h)).below hb, fun h => by simpa [sput] using (h23 (by simpa [did] using h)).below hb, kpw h24, kpw h25, kpw h26, kpw h27, kpw h28, fun _ => by simp [sput], kpw h30, kpw h31, below_nx hT hb⟩
                · as_aux_lemma =>
                    have g28 := h28 (by simp [hdep])
                    have g29 := h29 (by simp [hdep])
                    refine stepG_plain rfl ?_
                    unfold OpSteps
                    simp [go_sem, evS, g28, g29]
                    exact ⟨kpw h0, kpw h1, kpw h2, kpw h3, kpw h4, kpw h5, kpw h6, kpw h7, kpw h8, kpw h9, kpw h10, kpw h11, kpw h12, kpw h13, kpw h14, kpw h15, kpw h16, kpw h17, kpw h18, kpw h19, kpw h20, kpw h21, fun h => by simpa [sput] using h22 (by simpa [did] using h), fun h => by simpa [sput] using h23 (by simpa [did] using h), kpw h24, kpw h25, kpw h26, kpw h27, kpw h28, kpw h29, fun _ => by simp [sput], kpw h31, hT⟩
                · as_aux_lemma =>
                    have g30 := h30 (by simp [hdep])
                    refine stepG_plain rfl ?_
                    unfold OpSteps
                    simp [go_sem, evS, g30]
                    exact ⟨kpw h0, kpw h1, kpw h2, kpw h3, kpw h4, kpw h5, kpw h6, kpw h7, kpw h8, kpw h9, kpw h10, kpw h11, kpw h12, kpw h13, kpw h14, kpw h15, kpw h16, kpw h17, kpw h18, kpw h19, kpw h20, kpw h21, fun h => by simpa [sput] using h22 (by simpa [did] using h), fun h => by simpa [sput] using h23 (by simpa [did] using h), kpw h24, kpw h25, kpw h26, kpw h27, kpw h28, kpw h29, kpw h30, fun _ => by simp [sput], hT⟩
              intro d s W hJ hd
              obtain ⟨h0, h1, h2, h3, h4, h5, h6, h7, h8, h9, h10, h11, h12, h13, h14, h15, h16, h17, h18, h19, h20, h21, h22, h23, h24, h25, h26, h27, h28, h29, h30, h31, hT⟩ := hJ
              have hs2 := h31 (hd 31 (by decide))
              have HB9 := Lib.hid (below_nx HBr.out hT)
              clear h0 h1 h2 h3 h4 h5 h6 h7 h8 h9 h10 h11 h12 h13 h14 h15 h16 h17 h18 h19 h20 h21 h22 h23 h24 h25 h26 h27 h28 h29 h30 h31 hT hd
              simp [setAll, hs2]
              clear hs2
              generalize s 107 = s107
              generalize s 108 = s108
              generalize s 109 = s109
              generalize s 110 = s110
              generalize s 111 = s111
              generalize s 112 = s112
              generalize s 113 = s113
              generalize s 114 = s114
              generalize s 115 = s115
              generalize s 116 = s116
              generalize s 117 = s117
              generalize s 118 = s118
              generalize s 119 = s119
              generalize s 120 = s120
              generalize s 121 = s121
              generalize s 122 = s122
              generalize s 123 = s123
              generalize s 124 = s124
              generalize s 125 = s125
              generalize s 126 = s126
              generalize s 127 = s127
              generalize s 128 = s128
              generalize s 129 = s129
              generalize s 130 = s130
              generalize s 131 = s131
              generalize s 132 = s132
              generalize s 133 = s133
              generalize s 134 = s134
              generalize s 135 = s135
              generalize s 136 = s136
              generalize s 137 = s137
              generalize W = wg at *
              go_wp2_with fail
              go_ret
              exact ⟨rfl, HB9.out⟩
end Go.Proofs.Ytbbgldelebgnfaa
