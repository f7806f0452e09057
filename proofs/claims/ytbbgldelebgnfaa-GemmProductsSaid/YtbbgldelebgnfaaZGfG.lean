/-
GemmProducts: sizes that don't fit; no matrix, too many. Conditions: as each says.
-/
import Derived.Test.YtbbgldelebgnfaaZGfF
set_option linter.unusedVariables false
set_option linter.unusedSimpArgs false
set_option linter.unnecessarySimpa false
namespace Go.Proofs.Ytbbgldelebgnfaa
open Go.RowKit
attribute [local go_sem ↓] Go.wp_at_zero Go.wp_at_succ


set_option maxRecDepth 100000 in
set_option maxHeartbeats 4000000 in
theorem gproducts_size (b o n c : Nat) (L : List M5) (w : World) (hM : MlC w b o n L) (hL : L.length = n) (hn6 : n ≤ 6) (hn0 : 0 < n) (hnc : n ≤ c) (hOk : ∀ i, i < n → (mL L i).Ok w) (hg : ∀ i, i < n → greatM (mL L i) = false) (hgd : ∀ i, i < n → goodM (mL L i) = true) (hs : ∀ i, i < n → mr L i ≤ 64 ∧ mk L i ≤ 64) (p : Nat) (hp1 : 1 ≤ p) (hp : p < n) (hch : ∀ i, 1 ≤ i → i < p → mk L (i - 1) = mr L i) (hno : ¬ mk L (p - 1) = mr L p) :
    Calls Try.prog 4 #[.slice (some ⟨b, o, none⟩) n c] w fun e w' => e = .returned (.bool true) ∧ Below w.heap.size w w' := by
  have HM := Lib.hid hM
  have HRd := Lib.hid (fun i (h : i < n) W => mrgood_any (hOk i h) W)
  have g6 : decide ((6 : Int) < (n : Int)) = false := decide_eq_false (by omega)
  have g6' : decide (6 < n) = false := decide_eq_false (by omega)
  have HNg := Lib.hid hg
  have HWn := Lib.hid (wantL_good hgd)
  have HNa := Lib.hid (fun i (h : i < n) => And.intro (good_nat (hgd i h)).2.1 (good_nat (hgd i h)).2.2.1)
  have HFo := Lib.hid (fun W (h : Below w.heap.size w W) => gefollow_size b o n c L W (hM.below h) hL (by omega) hn0 (fun i hi => (hOk i hi).below h) (mr L) (mk L) hgd (fun i hi => ⟨(HNa.out i hi).1, (HNa.out i hi).2, hs i hi⟩) p hp1 hp hch hno)
  have HPr := Lib.hid (fun W (h : Below w.heap.size w W) => geproduct_err (some ⟨b, o, none⟩) n c 3 W (by omega) (fun W' h' => HFo.out W' (below_nx h h')))
  have t0 : ((n : Int) == 0) = false := by simp; omega
  have t0' : (n == 0) = false := by simp; omega
  have HCh := Lib.hid hch
  have HNo := Lib.hid hno
  have Hpn := Lib.hid (And.intro hp1 hp)
  clear hM hL hn0 hnc hOk hg hgd hs hch hno hp1 hp HFo
  go_enter Try.func4, Try.ntmps4
  go_wp2_with fail
  refine (awake11_any _).mono ?_
  rintro e w1 ⟨rfl, hb⟩
  have HB1 := Lib.hid hb
  clear hb
  go_wp2_with fail
  go_loopw [3, 4] (fun v a wr => ∃ q : Nat, q ≤ n ∧ v = .int .i64 (wantL L q) ∧ a = .int .i64 q ∧ Hid (Below w.heap.size w wr)) (fun _ a _ => n + 1 - (intOf a).toNat)
  case atStart => exact ⟨0, Nat.zero_le _, rfl, rfl, HB1⟩
  case round =>
    clear HB1
    obtain ⟨q, hq, rfl, rfl, HBr⟩ := hrel
    by_cases hlt : q < n
    · skip
      have hqn : q < n := by omega
      have hqi : (q : Int) < (n : Int) := by omega
      have hq1 : q + 1 ≤ 1048576 := by omega
      have HGq0 := fun W => mgreat_any (mL L q) W
      have HRq0 := fun W => HRd.out q hqn W
      rw [HNg.out q hlt] at HGq0
      obtain ⟨c0, c1, c2, c3, c4⟩ := HM.out.below HBr.out q hqn
      have hw1 : wantL L (q + 1) = if goodM (mL L q) then wantL L q else 1 := rfl
      generalize goodM (mL L q) = gd at hw1 HRq0
      generalize wantL L q = wq at *
      obtain ⟨wq1, hwq1⟩ : ∃ z, wantL L (q + 1) = z := ⟨_, rfl⟩
      rw [hwq1] at hw1
      have HWD := Lib.hid hwq1
      clear hwq1
      have HGq := Lib.hid HGq0
      have HRq := Lib.hid HRq0
      have HW1 := Lib.hid hw1
      clear HGq0 HRq0 hw1
      go_wp2_with fail
      refine (HGq.out _).mono ?_
      rintro e w2 ⟨rfl, hb⟩
      have HB2 := Lib.hid (below_nx HBr.out hb)
      have HC2 := Lib.hid (And.intro (cell_below c0 hb) (And.intro (cell_below c1 hb) (And.intro (cell_below c2 hb) (And.intro (cell_below c3 hb) (cell_below c4 hb)))))
      clear hb c0 c1 c2 c3 c4
      obtain ⟨c0, c1, c2, c3, c4⟩ := HC2.out
      go_wp2_with fail
      refine (HRq.out _).mono ?_
      rintro e w3 ⟨rfl, hb⟩
      have HB3 := Lib.hid (below_nx HB2.out hb)
      clear hb c0 c1 c2 c3 c4
      cases gd
      · have hw2 : (1 : Int) = wq1 := by have := HW1.out; simpa using this.symm
        clear HW1
        go_wp2_with fail
        go_roundw
        case rel => exact ⟨q + 1, by omega, by first | rw [HWD.out, hw2] | rw [HWD.out], by go_num, HB3⟩
        case measure => simp [intOf]; omega
      · have hw2 : wq = wq1 := by have := HW1.out; simpa using this.symm
        clear HW1
        go_wp2_with fail
        go_roundw
        case rel => exact ⟨q + 1, by omega, by first | rw [HWD.out, hw2] | rw [HWD.out], by go_num, HB3⟩
        case measure => simp [intOf]; omega
    · obtain rfl : n = q := by omega
      have hqc : ¬ (n : Int) < (n : Int) := by omega
      rw [HWn.out]
      clear hlt hq
      go_wp2_with fail
      go_loopw [3, 5] (fun v a wr => ∃ (q : Nat) (z : Int), v = .int .i64 z ∧ a = .int .i64 (q : Int) ∧ Hid ((q ≤ p ∧ z = 0) ∨ (q = p + 1 ∧ z = 3)) ∧ Hid (1 ≤ q) ∧ Hid (Below w.heap.size w wr)) (fun _ a _ => p + 2 - (intOf a).toNat)
      case atStart => exact ⟨1, 0, rfl, rfl, Lib.hid (.inl ⟨Hpn.out.1, rfl⟩), Lib.hid (Nat.le_refl 1), HBr⟩
      case round =>
        clear HBr
        obtain ⟨q, z, rfl, rfl, HQ, HQ1, HBr⟩ := hrel
        rcases HQ.out with ⟨hq, rfl⟩ | ⟨rfl, rfl⟩
        · by_cases hlt : q < p
          · skip
            have hqn : q < n := by have := Hpn.out; omega
            have bqn := hqn
            have hqi : (q : Int) < (n : Int) := by omega
            have hq1 : q + 1 ≤ 1048576 := by omega
            obtain ⟨q1, hqq⟩ : ∃ q1, q1 + 1 = q := ⟨q - 1, by have := HQ1.out; omega⟩
            have hqm : q - 1 = q1 := by omega
            have bq : q1 < n := by omega
            have bqi : (q1 : Int) < (n : Int) := by omega
            obtain ⟨_, _, cr, _, _⟩ := HM.out.below HBr.out q hqn
            obtain ⟨_, _, _, ck, _⟩ := HM.out.below HBr.out q1 bq
            rw [(HNa.out q hqn).1] at cr
            rw [(HNa.out q1 bq).2] at ck
            obtain ⟨K1, hK1⟩ : ∃ K1, mk L q1 = K1 := ⟨_, rfl⟩
            obtain ⟨R2, hR2⟩ : ∃ R2, mr L q = R2 := ⟨_, rfl⟩
            rw [hK1] at ck
            rw [hR2] at cr
            have hE : ((K1 : Int) != (R2 : Int)) = false := by
              rw [← hK1, ← hR2]
              have := HCh.out q HQ1.out (by omega)
              rw [hqm] at this
              rw [this]; simp
            have hE' : (K1 != R2) = false := by
              rw [← hK1, ← hR2]
              have := HCh.out q HQ1.out (by omega)
              rw [hqm] at this
              rw [this]; simp
            have HCk := Lib.hid ck
            have HCr := Lib.hid cr
            have hqs : (q : Int) - 1 = (q1 : Int) := by omega
            have ws1 : wrap64 ((q : Int) - 1) = (q1 : Int) := by rw [hqs]; exact wrap_id (by unfold I64; omega)
            have ws2 : IntKind.i64.wrap ((q : Int) - 1) = (q1 : Int) := by rw [hqs]; exact wrapi (by omega) (by omega)
            clear hqq hqm ck cr hK1 hR2 hqs
            go_wp2_with fail
            refine wp_region_inv [45, 46, 47, 48, 49, 50, 51, 52, 53, 54, 55, 56] (fun d s W => (d 0 = true → s 45 = .slice (some ⟨b, o, none⟩) n c) ∧ (d 1 = true → s 46 = .int .i64 (q : Int)) ∧ (d 2 = true → s 47 = .int .i64 (q1 : Int)) ∧ (d 3 = true → s 48 = .pointer (some ⟨b, o + q1 * 5, none⟩)) ∧ (d 4 = true → s 49 = .pointer (some ⟨b, o + q1 * 5 + 3, none⟩)) ∧ (d 5 = true → s 50 = .int .i64 (K1 : Int)) ∧ (d 6 = true → s 51 = .slice (some ⟨b, o, none⟩) n c) ∧ (d 7 = true → s 52 = .int .i64 (q : Int)) ∧ (d 8 = true → s 53 = .pointer (some ⟨b, o + q * 5, none⟩)) ∧ (d 9 = true → s 54 = .pointer (some ⟨b, o + q * 5 + 2, none⟩)) ∧ (d 10 = true → s 55 = .int .i64 (R2 : Int)) ∧ (d 11 = true → s 56 = .bool false) ∧ Below wr.heap.size wr W)
              rfl (by kernel_rfl) ?_ ?_ ?_
            · exact ⟨by simp, by simp, by simp, by simp, by simp, by simp, by simp, by simp, by simp, by simp, by simp, by simp, (Below.refl _ _).drew⟩
            · refine ⟨?_, ?_, ?_, ?_, ?_, ?_, ?_, ?_, ?_, ?_, ?_, ?_, trivial⟩
              all_goals
                intro d s W hJ hfr hd hdep
                simp only [List.mem_cons, forall_eq_or_imp, List.not_mem_nil, false_implies, implies_true, and_true, Region.binds] at hdep
                have f0 := hfr 0 (by decide)
                have f5 := hfr 5 (by decide)
                simp at f0 f5 hdep
                obtain ⟨h0, h1, h2, h3, h4, h5, h6, h7, h8, h9, h10, h11, hT⟩ := hJ
              · unfold OpSteps
                simp [go_sem, evS, f0]
                exact ⟨fun _ => by simp [sput], fun h => by simpa [sput] using h1 (by simpa [did] using h), fun h => by simpa [sput] using h2 (by simpa [did] using h), fun h => by simpa [sput] using h3 (by simpa [did] using h), fun h => by simpa [sput] using h4 (by simpa [did] using h), fun h => by simpa [sput] using h5 (by simpa [did] using h), fun h => by simpa [sput] using h6 (by simpa [did] using h), fun h => by simpa [sput] using h7 (by simpa [did] using h), fun h => by simpa [sput] using h8 (by simpa [did] using h), fun h => by simpa [sput] using h9 (by simpa [did] using h), fun h => by simpa [sput] using h10 (by simpa [did] using h), fun h => by simpa [sput] using h11 (by simpa [did] using h), hT⟩
              · unfold OpSteps
                simp [go_sem, evS, f5]
                exact ⟨fun h => by simpa [sput] using h0 (by simpa [did] using h), fun _ => by simp [sput], fun h => by simpa [sput] using h2 (by simpa [did] using h), fun h => by simpa [sput] using h3 (by simpa [did] using h), fun h => by simpa [sput] using h4 (by simpa [did] using h), fun h => by simpa [sput] using h5 (by simpa [did] using h), fun h => by simpa [sput] using h6 (by simpa [did] using h), fun h => by simpa [sput] using h7 (by simpa [did] using h), fun h => by simpa [sput] using h8 (by simpa [did] using h), fun h => by simpa [sput] using h9 (by simpa [did] using h), fun h => by simpa [sput] using h10 (by simpa [did] using h), fun h => by simpa [sput] using h11 (by simpa [did] using h), hT⟩
              · have g1 := h1 (by simp [hdep])
                unfold OpSteps
                simp [go_sem, evS, g1, ws1, ws2]
                exact ⟨fun h => by simpa [sput] using h0 (by simpa [did] using h), fun h => by simpa [sput] using h1 (by simpa [did] using h), fun _ => by simp [sput], fun h => by simpa [sput] using h3 (by simpa [did] using h), fun h => by simpa [sput] using h4 (by simpa [did] using h), fun h => by simpa [sput] using h5 (by simpa [did] using h), fun h => by simpa [sput] using h6 (by simpa [did] using h), fun h => by simpa [sput] using h7 (by simpa [did] using h), fun h => by simpa [sput] using h8 (by simpa [did] using h), fun h => by simpa [sput] using h9 (by simpa [did] using h), fun h => by simpa [sput] using h10 (by simpa [did] using h), fun h => by simpa [sput] using h11 (by simpa [did] using h), hT⟩
              · have g0 := h0 (by simp [hdep])
                have g2 := h2 (by simp [hdep])
                unfold OpSteps
                simp [go_sem, evS, g0, g2, bq, bqi]
                exact ⟨fun h => by simpa [sput] using h0 (by simpa [did] using h), fun h => by simpa [sput] using h1 (by simpa [did] using h), fun h => by simpa [sput] using h2 (by simpa [did] using h), fun _ => by simp [sput], fun h => by simpa [sput] using h4 (by simpa [did] using h), fun h => by simpa [sput] using h5 (by simpa [did] using h), fun h => by simpa [sput] using h6 (by simpa [did] using h), fun h => by simpa [sput] using h7 (by simpa [did] using h), fun h => by simpa [sput] using h8 (by simpa [did] using h), fun h => by simpa [sput] using h9 (by simpa [did] using h), fun h => by simpa [sput] using h10 (by simpa [did] using h), fun h => by simpa [sput] using h11 (by simpa [did] using h), hT⟩
              · have g3 := h3 (by simp [hdep])
                unfold OpSteps
                simp [go_sem, evS, g3]
                exact ⟨fun h => by simpa [sput] using h0 (by simpa [did] using h), fun h => by simpa [sput] using h1 (by simpa [did] using h), fun h => by simpa [sput] using h2 (by simpa [did] using h), fun h => by simpa [sput] using h3 (by simpa [did] using h), fun _ => by simp [sput], fun h => by simpa [sput] using h5 (by simpa [did] using h), fun h => by simpa [sput] using h6 (by simpa [did] using h), fun h => by simpa [sput] using h7 (by simpa [did] using h), fun h => by simpa [sput] using h8 (by simpa [did] using h), fun h => by simpa [sput] using h9 (by simpa [did] using h), fun h => by simpa [sput] using h10 (by simpa [did] using h), fun h => by simpa [sput] using h11 (by simpa [did] using h), hT⟩
              · have g4 := h4 (by simp [hdep])
                unfold OpSteps
                have pc := cell_below HCk.out hT
                simp [go_sem, evS, g4, pc]
                exact ⟨fun h => by simpa [sput] using h0 (by simpa [did] using h), fun h => by simpa [sput] using h1 (by simpa [did] using h), fun h => by simpa [sput] using h2 (by simpa [did] using h), fun h => by simpa [sput] using h3 (by simpa [did] using h), fun h => by simpa [sput] using h4 (by simpa [did] using h), fun _ => by simp [sput], fun h => by simpa [sput] using h6 (by simpa [did] using h), fun h => by simpa [sput] using h7 (by simpa [did] using h), fun h => by simpa [sput] using h8 (by simpa [did] using h), fun h => by simpa [sput] using h9 (by simpa [did] using h), fun h => by simpa [sput] using h10 (by simpa [did] using h), fun h => by simpa [sput] using h11 (by simpa [did] using h), hT⟩
              · unfold OpSteps
                simp [go_sem, evS, f0]
                exact ⟨fun h => by simpa [sput] using h0 (by simpa [did] using h), fun h => by simpa [sput] using h1 (by simpa [did] using h), fun h => by simpa [sput] using h2 (by simpa [did] using h), fun h => by simpa [sput] using h3 (by simpa [did] using h), fun h => by simpa [sput] using h4 (by simpa [did] using h), fun h => by simpa [sput] using h5 (by simpa [did] using h), fun _ => by simp [sput], fun h => by simpa [sput] using h7 (by simpa [did] using h), fun h => by simpa [sput] using h8 (by simpa [did] using h), fun h => by simpa [sput] using h9 (by simpa [did] using h), fun h => by simpa [sput] using h10 (by simpa [did] using h), fun h => by simpa [sput] using h11 (by simpa [did] using h), hT⟩
              · unfold OpSteps
                simp [go_sem, evS, f5]
                exact ⟨fun h => by simpa [sput] using h0 (by simpa [did] using h), fun h => by simpa [sput] using h1 (by simpa [did] using h), fun h => by simpa [sput] using h2 (by simpa [did] using h), fun h => by simpa [sput] using h3 (by simpa [did] using h), fun h => by simpa [sput] using h4 (by simpa [did] using h), fun h => by simpa [sput] using h5 (by simpa [did] using h), fun h => by simpa [sput] using h6 (by simpa [did] using h), fun _ => by simp [sput], fun h => by simpa [sput] using h8 (by simpa [did] using h), fun h => by simpa [sput] using h9 (by simpa [did] using h), fun h => by simpa [sput] using h10 (by simpa [did] using h), fun h => by simpa [sput] using h11 (by simpa [did] using h), hT⟩
              · have g6 := h6 (by simp [hdep])
                have g7 := h7 (by simp [hdep])
                unfold OpSteps
                simp [go_sem, evS, g6, g7, bqn, hqi]
                exact ⟨fun h => by simpa [sput] using h0 (by simpa [did] using h), fun h => by simpa [sput] using h1 (by simpa [did] using h), fun h => by simpa [sput] using h2 (by simpa [did] using h), fun h => by simpa [sput] using h3 (by simpa [did] using h), fun h => by simpa [sput] using h4 (by simpa [did] using h), fun h => by simpa [sput] using h5 (by simpa [did] using h), fun h => by simpa [sput] using h6 (by simpa [did] using h), fun h => by simpa [sput] using h7 (by simpa [did] using h), fun _ => by simp [sput], fun h => by simpa [sput] using h9 (by simpa [did] using h), fun h => by simpa [sput] using h10 (by simpa [did] using h), fun h => by simpa [sput] using h11 (by simpa [did] using h), hT⟩
              · have g8 := h8 (by simp [hdep])
                unfold OpSteps
                simp [go_sem, evS, g8]
                exact ⟨fun h => by simpa [sput] using h0 (by simpa [did] using h), fun h => by simpa [sput] using h1 (by simpa [did] using h), fun h => by simpa [sput] using h2 (by simpa [did] using h), fun h => by simpa [sput] using h3 (by simpa [did] using h), fun h => by simpa [sput] using h4 (by simpa [did] using h), fun h => by simpa [sput] using h5 (by simpa [did] using h), fun h => by simpa [sput] using h6 (by simpa [did] using h), fun h => by simpa [sput] using h7 (by simpa [did] using h), fun h => by simpa [sput] using h8 (by simpa [did] using h), fun _ => by simp [sput], fun h => by simpa [sput] using h10 (by simpa [did] using h), fun h => by simpa [sput] using h11 (by simpa [did] using h), hT⟩
              · have g9 := h9 (by simp [hdep])
                unfold OpSteps
                have pc := cell_below HCr.out hT
                simp [go_sem, evS, g9, pc]
                exact ⟨fun h => by simpa [sput] using h0 (by simpa [did] using h), fun h => by simpa [sput] using h1 (by simpa [did] using h), fun h => by simpa [sput] using h2 (by simpa [did] using h), fun h => by simpa [sput] using h3 (by simpa [did] using h), fun h => by simpa [sput] using h4 (by simpa [did] using h), fun h => by simpa [sput] using h5 (by simpa [did] using h), fun h => by simpa [sput] using h6 (by simpa [did] using h), fun h => by simpa [sput] using h7 (by simpa [did] using h), fun h => by simpa [sput] using h8 (by simpa [did] using h), fun h => by simpa [sput] using h9 (by simpa [did] using h), fun _ => by simp [sput], fun h => by simpa [sput] using h11 (by simpa [did] using h), hT⟩
              · have g5 := h5 (by simp [hdep])
                have g10 := h10 (by simp [hdep])
                unfold OpSteps
                simp [go_sem, evS, g5, g10, hE, hE']
                exact ⟨fun h => by simpa [sput] using h0 (by simpa [did] using h), fun h => by simpa [sput] using h1 (by simpa [did] using h), fun h => by simpa [sput] using h2 (by simpa [did] using h), fun h => by simpa [sput] using h3 (by simpa [did] using h), fun h => by simpa [sput] using h4 (by simpa [did] using h), fun h => by simpa [sput] using h5 (by simpa [did] using h), fun h => by simpa [sput] using h6 (by simpa [did] using h), fun h => by simpa [sput] using h7 (by simpa [did] using h), fun h => by simpa [sput] using h8 (by simpa [did] using h), fun h => by simpa [sput] using h9 (by simpa [did] using h), fun h => by simpa [sput] using h10 (by simpa [did] using h), fun _ => by simp [sput], hT⟩
            intro d s W hJ hd
            obtain ⟨h0, h1, h2, h3, h4, h5, h6, h7, h8, h9, h10, h11, hT⟩ := hJ
            have hs56 := h11 (hd 11 (by decide))
            have HB4 := Lib.hid (below_nx HBr.out hT)
            clear h0 h1 h2 h3 h4 h5 h6 h7 h8 h9 h10 h11 hT hd
            simp [setAll, hs56]
            clear hs56
            generalize s 45 = s45
            generalize s 46 = s46
            generalize s 47 = s47
            generalize s 48 = s48
            generalize s 49 = s49
            generalize s 50 = s50
            generalize s 51 = s51
            generalize s 52 = s52
            generalize s 53 = s53
            generalize s 54 = s54
            generalize s 55 = s55
            generalize W = w9 at *
            go_wp2_with fail
            go_roundw
            case rel => exact ⟨q + 1, 0, rfl, by go_num, Lib.hid (.inl ⟨by omega, rfl⟩), Lib.hid (by omega), HB4⟩
            case measure => simp [intOf] <;> omega

          · obtain rfl : q = p := by omega
            clear hlt hq
            have hqn : q < n := by have := Hpn.out; omega
            have bqn := hqn
            have hqi : (q : Int) < (n : Int) := by omega
            have hq1 : q + 1 ≤ 1048576 := by omega
            obtain ⟨q1, hqq⟩ : ∃ q1, q1 + 1 = q := ⟨q - 1, by have := HQ1.out; omega⟩
            have hqm : q - 1 = q1 := by omega
            have bq : q1 < n := by omega
            have bqi : (q1 : Int) < (n : Int) := by omega
            obtain ⟨_, _, cr, _, _⟩ := HM.out.below HBr.out q hqn
            obtain ⟨_, _, _, ck, _⟩ := HM.out.below HBr.out q1 bq
            rw [(HNa.out q hqn).1] at cr
            rw [(HNa.out q1 bq).2] at ck
            obtain ⟨K1, hK1⟩ : ∃ K1, mk L q1 = K1 := ⟨_, rfl⟩
            obtain ⟨R2, hR2⟩ : ∃ R2, mr L q = R2 := ⟨_, rfl⟩
            rw [hK1] at ck
            rw [hR2] at cr
            have hE : ((K1 : Int) != (R2 : Int)) = true := by
              rw [← hK1, ← hR2]
              have := HNo.out
              rw [hqm] at this
              simp; omega
            have hE' : (K1 != R2) = true := by
              rw [← hK1, ← hR2]
              have := HNo.out
              rw [hqm] at this
              simp; omega
            have HCk := Lib.hid ck
            have HCr := Lib.hid cr
            have hqs : (q : Int) - 1 = (q1 : Int) := by omega
            have ws1 : wrap64 ((q : Int) - 1) = (q1 : Int) := by rw [hqs]; exact wrap_id (by unfold I64; omega)
            have ws2 : IntKind.i64.wrap ((q : Int) - 1) = (q1 : Int) := by rw [hqs]; exact wrapi (by omega) (by omega)
            clear hqq hqm ck cr hK1 hR2 hqs
            go_wp2_with fail
            refine wp_region_inv [45, 46, 47, 48, 49, 50, 51, 52, 53, 54, 55, 56] (fun d s W => (d 0 = true → s 45 = .slice (some ⟨b, o, none⟩) n c) ∧ (d 1 = true → s 46 = .int .i64 (q : Int)) ∧ (d 2 = true → s 47 = .int .i64 (q1 : Int)) ∧ (d 3 = true → s 48 = .pointer (some ⟨b, o + q1 * 5, none⟩)) ∧ (d 4 = true → s 49 = .pointer (some ⟨b, o + q1 * 5 + 3, none⟩)) ∧ (d 5 = true → s 50 = .int .i64 (K1 : Int)) ∧ (d 6 = true → s 51 = .slice (some ⟨b, o, none⟩) n c) ∧ (d 7 = true → s 52 = .int .i64 (q : Int)) ∧ (d 8 = true → s 53 = .pointer (some ⟨b, o + q * 5, none⟩)) ∧ (d 9 = true → s 54 = .pointer (some ⟨b, o + q * 5 + 2, none⟩)) ∧ (d 10 = true → s 55 = .int .i64 (R2 : Int)) ∧ (d 11 = true → s 56 = .bool true) ∧ Below wr.heap.size wr W)
              rfl (by kernel_rfl) ?_ ?_ ?_
            · exact ⟨by simp, by simp, by simp, by simp, by simp, by simp, by simp, by simp, by simp, by simp, by simp, by simp, (Below.refl _ _).drew⟩
            · refine ⟨?_, ?_, ?_, ?_, ?_, ?_, ?_, ?_, ?_, ?_, ?_, ?_, trivial⟩
              all_goals
                intro d s W hJ hfr hd hdep
                simp only [List.mem_cons, forall_eq_or_imp, List.not_mem_nil, false_implies, implies_true, and_true, Region.binds] at hdep
                have f0 := hfr 0 (by decide)
                have f5 := hfr 5 (by decide)
                simp at f0 f5 hdep
                obtain ⟨h0, h1, h2, h3, h4, h5, h6, h7, h8, h9, h10, h11, hT⟩ := hJ
              · unfold OpSteps
                simp [go_sem, evS, f0]
                exact ⟨fun _ => by simp [sput], fun h => by simpa [sput] using h1 (by simpa [did] using h), fun h => by simpa [sput] using h2 (by simpa [did] using h), fun h => by simpa [sput] using h3 (by simpa [did] using h), fun h => by simpa [sput] using h4 (by simpa [did] using h), fun h => by simpa [sput] using h5 (by simpa [did] using h), fun h => by simpa [sput] using h6 (by simpa [did] using h), fun h => by simpa [sput] using h7 (by simpa [did] using h), fun h => by simpa [sput] using h8 (by simpa [did] using h), fun h => by simpa [sput] using h9 (by simpa [did] using h), fun h => by simpa [sput] using h10 (by simpa [did] using h), fun h => by simpa [sput] using h11 (by simpa [did] using h), hT⟩
              · unfold OpSteps
                simp [go_sem, evS, f5]
                exact ⟨fun h => by simpa [sput] using h0 (by simpa [did] using h), fun _ => by simp [sput], fun h => by simpa [sput] using h2 (by simpa [did] using h), fun h => by simpa [sput] using h3 (by simpa [did] using h), fun h => by simpa [sput] using h4 (by simpa [did] using h), fun h => by simpa [sput] using h5 (by simpa [did] using h), fun h => by simpa [sput] using h6 (by simpa [did] using h), fun h => by simpa [sput] using h7 (by simpa [did] using h), fun h => by simpa [sput] using h8 (by simpa [did] using h), fun h => by simpa [sput] using h9 (by simpa [did] using h), fun h => by simpa [sput] using h10 (by simpa [did] using h), fun h => by simpa [sput] using h11 (by simpa [did] using h), hT⟩
              · have g1 := h1 (by simp [hdep])
                unfold OpSteps
                simp [go_sem, evS, g1, ws1, ws2]
                exact ⟨fun h => by simpa [sput] using h0 (by simpa [did] using h), fun h => by simpa [sput] using h1 (by simpa [did] using h), fun _ => by simp [sput], fun h => by simpa [sput] using h3 (by simpa [did] using h), fun h => by simpa [sput] using h4 (by simpa [did] using h), fun h => by simpa [sput] using h5 (by simpa [did] using h), fun h => by simpa [sput] using h6 (by simpa [did] using h), fun h => by simpa [sput] using h7 (by simpa [did] using h), fun h => by simpa [sput] using h8 (by simpa [did] using h), fun h => by simpa [sput] using h9 (by simpa [did] using h), fun h => by simpa [sput] using h10 (by simpa [did] using h), fun h => by simpa [sput] using h11 (by simpa [did] using h), hT⟩
              · have g0 := h0 (by simp [hdep])
                have g2 := h2 (by simp [hdep])
                unfold OpSteps
                simp [go_sem, evS, g0, g2, bq, bqi]
                exact ⟨fun h => by simpa [sput] using h0 (by simpa [did] using h), fun h => by simpa [sput] using h1 (by simpa [did] using h), fun h => by simpa [sput] using h2 (by simpa [did] using h), fun _ => by simp [sput], fun h => by simpa [sput] using h4 (by simpa [did] using h), fun h => by simpa [sput] using h5 (by simpa [did] using h), fun h => by simpa [sput] using h6 (by simpa [did] using h), fun h => by simpa [sput] using h7 (by simpa [did] using h), fun h => by simpa [sput] using h8 (by simpa [did] using h), fun h => by simpa [sput] using h9 (by simpa [did] using h), fun h => by simpa [sput] using h10 (by simpa [did] using h), fun h => by simpa [sput] using h11 (by simpa [did] using h), hT⟩
              · have g3 := h3 (by simp [hdep])
                unfold OpSteps
                simp [go_sem, evS, g3]
                exact ⟨fun h => by simpa [sput] using h0 (by simpa [did] using h), fun h => by simpa [sput] using h1 (by simpa [did] using h), fun h => by simpa [sput] using h2 (by simpa [did] using h), fun h => by simpa [sput] using h3 (by simpa [did] using h), fun _ => by simp [sput], fun h => by simpa [sput] using h5 (by simpa [did] using h), fun h => by simpa [sput] using h6 (by simpa [did] using h), fun h => by simpa [sput] using h7 (by simpa [did] using h), fun h => by simpa [sput] using h8 (by simpa [did] using h), fun h => by simpa [sput] using h9 (by simpa [did] using h), fun h => by simpa [sput] using h10 (by simpa [did] using h), fun h => by simpa [sput] using h11 (by simpa [did] using h), hT⟩
              · have g4 := h4 (by simp [hdep])
                unfold OpSteps
                have pc := cell_below HCk.out hT
                simp [go_sem, evS, g4, pc]
                exact ⟨fun h => by simpa [sput] using h0 (by simpa [did] using h), fun h => by simpa [sput] using h1 (by simpa [did] using h), fun h => by simpa [sput] using h2 (by simpa [did] using h), fun h => by simpa [sput] using h3 (by simpa [did] using h), fun h => by simpa [sput] using h4 (by simpa [did] using h), fun _ => by simp [sput], fun h => by simpa [sput] using h6 (by simpa [did] using h), fun h => by simpa [sput] using h7 (by simpa [did] using h), fun h => by simpa [sput] using h8 (by simpa [did] using h), fun h => by simpa [sput] using h9 (by simpa [did] using h), fun h => by simpa [sput] using h10 (by simpa [did] using h), fun h => by simpa [sput] using h11 (by simpa [did] using h), hT⟩
              · unfold OpSteps
                simp [go_sem, evS, f0]
                exact ⟨fun h => by simpa [sput] using h0 (by simpa [did] using h), fun h => by simpa [sput] using h1 (by simpa [did] using h), fun h => by simpa [sput] using h2 (by simpa [did] using h), fun h => by simpa [sput] using h3 (by simpa [did] using h), fun h => by simpa [sput] using h4 (by simpa [did] using h), fun h => by simpa [sput] using h5 (by simpa [did] using h), fun _ => by simp [sput], fun h => by simpa [sput] using h7 (by simpa [did] using h), fun h => by simpa [sput] using h8 (by simpa [did] using h), fun h => by simpa [sput] using h9 (by simpa [did] using h), fun h => by simpa [sput] using h10 (by simpa [did] using h), fun h => by simpa [sput] using h11 (by simpa [did] using h), hT⟩
              · unfold OpSteps
                simp [go_sem, evS, f5]
                exact ⟨fun h => by simpa [sput] using h0 (by simpa [did] using h), fun h => by simpa [sput] using h1 (by simpa [did] using h), fun h => by simpa [sput] using h2 (by simpa [did] using h), fun h => by simpa [sput] using h3 (by simpa [did] using h), fun h => by simpa [sput] using h4 (by simpa [did] using h), fun h => by simpa [sput] using h5 (by simpa [did] using h), fun h => by simpa [sput] using h6 (by simpa [did] using h), fun _ => by simp [sput], fun h => by simpa [sput] using h8 (by simpa [did] using h), fun h => by simpa [sput] using h9 (by simpa [did] using h), fun h => by simpa [sput] using h10 (by simpa [did] using h), fun h => by simpa [sput] using h11 (by simpa [did] using h), hT⟩
              · have g6 := h6 (by simp [hdep])
                have g7 := h7 (by simp [hdep])
                unfold OpSteps
                simp [go_sem, evS, g6, g7, bqn, hqi]
                exact ⟨fun h => by simpa [sput] using h0 (by simpa [did] using h), fun h => by simpa [sput] using h1 (by simpa [did] using h), fun h => by simpa [sput] using h2 (by simpa [did] using h), fun h => by simpa [sput] using h3 (by simpa [did] using h), fun h => by simpa [sput] using h4 (by simpa [did] using h), fun h => by simpa [sput] using h5 (by simpa [did] using h), fun h => by simpa [sput] using h6 (by simpa [did] using h), fun h => by simpa [sput] using h7 (by simpa [did] using h), fun _ => by simp [sput], fun h => by simpa [sput] using h9 (by simpa [did] using h), fun h => by simpa [sput] using h10 (by simpa [did] using h), fun h => by simpa [sput] using h11 (by simpa [did] using h), hT⟩
              · have g8 := h8 (by simp [hdep])
                unfold OpSteps
                simp [go_sem, evS, g8]
                exact ⟨fun h => by simpa [sput] using h0 (by simpa [did] using h), fun h => by simpa [sput] using h1 (by simpa [did] using h), fun h => by simpa [sput] using h2 (by simpa [did] using h), fun h => by simpa [sput] using h3 (by simpa [did] using h), fun h => by simpa [sput] using h4 (by simpa [did] using h), fun h => by simpa [sput] using h5 (by simpa [did] using h), fun h => by simpa [sput] using h6 (by simpa [did] using h), fun h => by simpa [sput] using h7 (by simpa [did] using h), fun h => by simpa [sput] using h8 (by simpa [did] using h), fun _ => by simp [sput], fun h => by simpa [sput] using h10 (by simpa [did] using h), fun h => by simpa [sput] using h11 (by simpa [did] using h), hT⟩
              · have g9 := h9 (by simp [hdep])
                unfold OpSteps
                have pc := cell_below HCr.out hT
                simp [go_sem, evS, g9, pc]
                exact ⟨fun h => by simpa [sput] using h0 (by simpa [did] using h), fun h => by simpa [sput] using h1 (by simpa [did] using h), fun h => by simpa [sput] using h2 (by simpa [did] using h), fun h => by simpa [sput] using h3 (by simpa [did] using h), fun h => by simpa [sput] using h4 (by simpa [did] using h), fun h => by simpa [sput] using h5 (by simpa [did] using h), fun h => by simpa [sput] using h6 (by simpa [did] using h), fun h => by simpa [sput] using h7 (by simpa [did] using h), fun h => by simpa [sput] using h8 (by simpa [did] using h), fun h => by simpa [sput] using h9 (by simpa [did] using h), fun _ => by simp [sput], fun h => by simpa [sput] using h11 (by simpa [did] using h), hT⟩
              · have g5 := h5 (by simp [hdep])
                have g10 := h10 (by simp [hdep])
                unfold OpSteps
                simp [go_sem, evS, g5, g10, hE, hE']
                exact ⟨fun h => by simpa [sput] using h0 (by simpa [did] using h), fun h => by simpa [sput] using h1 (by simpa [did] using h), fun h => by simpa [sput] using h2 (by simpa [did] using h), fun h => by simpa [sput] using h3 (by simpa [did] using h), fun h => by simpa [sput] using h4 (by simpa [did] using h), fun h => by simpa [sput] using h5 (by simpa [did] using h), fun h => by simpa [sput] using h6 (by simpa [did] using h), fun h => by simpa [sput] using h7 (by simpa [did] using h), fun h => by simpa [sput] using h8 (by simpa [did] using h), fun h => by simpa [sput] using h9 (by simpa [did] using h), fun h => by simpa [sput] using h10 (by simpa [did] using h), fun _ => by simp [sput], hT⟩
            intro d s W hJ hd
            obtain ⟨h0, h1, h2, h3, h4, h5, h6, h7, h8, h9, h10, h11, hT⟩ := hJ
            have hs56 := h11 (hd 11 (by decide))
            have HB4 := Lib.hid (below_nx HBr.out hT)
            clear h0 h1 h2 h3 h4 h5 h6 h7 h8 h9 h10 h11 hT hd
            simp [setAll, hs56]
            clear hs56
            generalize s 45 = s45
            generalize s 46 = s46
            generalize s 47 = s47
            generalize s 48 = s48
            generalize s 49 = s49
            generalize s 50 = s50
            generalize s 51 = s51
            generalize s 52 = s52
            generalize s 53 = s53
            generalize s 54 = s54
            generalize s 55 = s55
            generalize W = w9 at *
            go_wp2_with fail
            go_roundw
            case rel => exact ⟨q + 1, 3, rfl, by go_num, Lib.hid (.inr ⟨rfl, rfl⟩), Lib.hid (by omega), HB4⟩
            case measure => simp [intOf] <;> omega

        · obtain ⟨q, hqq⟩ : ∃ q, p + 1 = q := ⟨_, rfl⟩
          rw [hqq]
          obtain ⟨b1, hb1⟩ : ∃ x, decide ((q : Int) < (n : Int)) = x := ⟨_, rfl⟩
          have hb2 : decide (q < n) = b1 := by rw [← hb1]; exact decide_eq_decide.2 (by omega)
          clear HQ HQ1 hqq
          cases b1
          · go_wp2_with fail
            refine (HPr.out _ HBr.out).mono ?_
            rintro e w5 ⟨rfl, hb⟩
            have HB5 := Lib.hid (below_al (below_nx HBr.out hb) (o := (.cells #[.slice none 0 0, .int .i64 0, .int .i64 0, .int .i64 0, .int .i64 0] 25)))
            have Hm5 := Lib.hid (Blk.new w5 25 #[.slice none 0 0, .int .i64 0, .int .i64 0, .int .i64 0, .int .i64 0])
            clear hb
            obtain ⟨m0, m1, m2, m3, m4⟩ := cells5 Hm5.out
            go_wp2_with fail
            clear m0 m1 m2 m3 m4
            refine (awake11_any _).mono ?_
            rintro e w6 ⟨rfl, hb⟩
            have HB6 := Lib.hid (below_nx HB5.out hb)
            clear hb
            go_wp2_with fail
            go_ret
            exact ⟨rfl, HB6.out⟩
          · go_wp2_with fail
            refine (HPr.out _ HBr.out).mono ?_
            rintro e w5 ⟨rfl, hb⟩
            have HB5 := Lib.hid (below_al (below_nx HBr.out hb) (o := (.cells #[.slice none 0 0, .int .i64 0, .int .i64 0, .int .i64 0, .int .i64 0] 25)))
            have Hm5 := Lib.hid (Blk.new w5 25 #[.slice none 0 0, .int .i64 0, .int .i64 0, .int .i64 0, .int .i64 0])
            clear hb
            obtain ⟨m0, m1, m2, m3, m4⟩ := cells5 Hm5.out
            go_wp2_with fail
            clear m0 m1 m2 m3 m4
            refine (awake11_any _).mono ?_
            rintro e w6 ⟨rfl, hb⟩
            have HB6 := Lib.hid (below_nx HB5.out hb)
            clear hb
            go_wp2_with fail
            go_ret
            exact ⟨rfl, HB6.out⟩

set_option maxRecDepth 100000 in
set_option maxHeartbeats 4000000 in
theorem gproducts_nil (A : Option Addr) (c : Nat) (w : World) : Calls Try.prog 4 #[.slice A 0 c] w fun e w' => e = .returned (.bool true) ∧ Below w.heap.size w w' := by
  have HPr := Lib.hid (fun W (h : Below w.heap.size w W) => geproduct_err A 0 c 1 W (by omega) (fun W' h' => gefollow_nil A c W'))
  go_enter Try.func4, Try.ntmps4
  go_wp2_with fail
  refine (awake11_any _).mono ?_
  rintro e w1 ⟨rfl, hb⟩
  have HB1 := Lib.hid hb
  clear hb
  go_wp2_with fail
  go_loopw [3, 4] (fun v a wr => ∃ q : Nat, q ≤ 0 ∧ v = .int .i64 0 ∧ a = .int .i64 q ∧ Hid (Below w.heap.size w wr)) (fun _ a _ => 0 - (intOf a).toNat)
  case atStart => exact ⟨0, Nat.zero_le _, rfl, rfl, HB1⟩
  case round =>
    clear HB1
    obtain ⟨q, hq, rfl, rfl, HBr⟩ := hrel
    obtain rfl : q = 0 := by omega
    go_wp2_with fail
    go_loopw [3, 5] (fun v a wr => ∃ q : Nat, q = 1 ∧ v = .int .i64 0 ∧ a = .int .i64 q ∧ Hid (Below w.heap.size w wr)) (fun _ a _ => 0)
    case atStart => exact ⟨1, rfl, rfl, rfl, HBr⟩
    case round =>
      clear HBr
      obtain ⟨q, rfl, rfl, rfl, HBr⟩ := hrel
      go_wp2_with fail
      refine (HPr.out _ HBr.out).mono ?_
      rintro e w5 ⟨rfl, hb⟩
      have HB5 := Lib.hid (below_al (below_nx HBr.out hb) (o := (.cells #[.slice none 0 0, .int .i64 0, .int .i64 0, .int .i64 0, .int .i64 0] 25)))
      have Hm5 := Lib.hid (Blk.new w5 25 #[.slice none 0 0, .int .i64 0, .int .i64 0, .int .i64 0, .int .i64 0])
      clear hb
      obtain ⟨m0, m1, m2, m3, m4⟩ := cells5 Hm5.out
      go_wp2_with fail
      clear m0 m1 m2 m3 m4
      refine (awake11_any _).mono ?_
      rintro e w6 ⟨rfl, hb⟩
      have HB6 := Lib.hid (below_nx HB5.out hb)
      clear hb
      go_wp2_with fail
      go_ret
      exact ⟨rfl, HB6.out⟩

set_option maxHeartbeats 4000000 in
theorem gproducts_six (A : Option Addr) (n c : Nat) (w : World) (h : 6 < n) : Calls Try.prog 4 #[.slice A n c] w fun e w' => e = .returned (.bool true) ∧ Below w.heap.size w w' := by
  have g6 : decide ((6 : Int) < (n : Int)) = true := decide_eq_true (by omega)
  have g6' : decide (6 < n) = true := decide_eq_true (by omega)
  clear h
  go_enter Try.func4, Try.ntmps4
  go_wp2_with fail
  refine (awake11_any _).mono ?_
  rintro e w1 ⟨rfl, hb⟩
  have HB1 := Lib.hid hb
  clear hb
  go_wp2_with fail
  refine (awake11_any _).mono ?_
  rintro e w3 ⟨rfl, hb⟩
  have HB3 := Lib.hid (below_nx HB1.out hb)
  clear hb
  go_wp2_with fail
  go_ret
  exact ⟨rfl, HB3.out⟩
end Go.Proofs.Ytbbgldelebgnfaa
