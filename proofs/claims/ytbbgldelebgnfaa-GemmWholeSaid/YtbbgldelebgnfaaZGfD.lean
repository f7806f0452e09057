/-
Gemm: follow. Conditions: as each says.
-/
import Derived.Test.YtbbgldelebgnfaaZGfA
import Derived.Test.YtbbgldelebgnfaaUaam
import Derived.Test.YtbbgldelebgnfaaZCl
set_option linter.unusedVariables false
set_option linter.unusedSimpArgs false
set_option linter.unnecessarySimpa false
namespace Go.Proofs.Ytbbgldelebgnfaa
open Go.RowKit
attribute [local go_sem ↓] Go.wp_at_zero Go.wp_at_succ

theorem run_max_natf (P : Program) (ts : Array TypeId) (t : TypeId) (x y : Nat) (w : World) : (Builtin.max_ ts t #[.int .i64 (x : Int), .int .i64 (y : Int)]).run P w = .ok (.int .i64 ((max x y : Nat) : Int)) w := run_max_nat P ts t x y w
attribute [local go_sem ↓] run_max_natf
/-- A matrix of the list. -/
def mL (L : List M5) (i : Nat) : M5 := L.getD i default
theorem mL_eq {L : List M5} {i : Nat} (h : i < L.length) : mL L i = L[i] := by unfold mL; simp [List.getD, h]
/-- Is it right? -/
def goodM (x : M5) : Bool := matB x.l.length x.o x.r x.k x.L
/-- The matrices' cells from o on. -/
def MlC (w : World) (b o n : Nat) (L : List M5) : Prop := ∀ i, i < n → w.cell? ⟨b, o + i * 5, none⟩ = some (.slice (mL L i).A (mL L i).l.length (mL L i).c) ∧ w.cell? ⟨b, o + i * 5 + 1, none⟩ = some (.int .i64 (mL L i).o) ∧ w.cell? ⟨b, o + i * 5 + 2, none⟩ = some (.int .i64 (mL L i).r) ∧ w.cell? ⟨b, o + i * 5 + 3, none⟩ = some (.int .i64 (mL L i).k) ∧ w.cell? ⟨b, o + i * 5 + 4, none⟩ = some (.int .i64 (mL L i).L)
theorem MlC.below {w w' : World} {b o n : Nat} {L : List M5} (h : MlC w b o n L) (hb : Below w.heap.size w w') : MlC w' b o n L := fun i hi => by
  obtain ⟨c0, c1, c2, c3, c4⟩ := h i hi
  exact ⟨cell_below c0 hb, cell_below c1 hb, cell_below c2 hb, cell_below c3 hb, cell_below c4 hb⟩
theorem Ml.some {w : World} {A : Option Addr} {L : List M5} (h : Ml w A L) (hn : 0 < L.length) : ∃ b o, A = some ⟨b, o, none⟩ ∧ MlC w b o L.length L := by
  obtain ⟨b, o, e, _⟩ := h.at_ hn
  refine ⟨b, o, e, fun i hi => ?_⟩
  obtain ⟨b', o', e', c0, c1, c2, c3, c4⟩ := h.at_ hi
  rw [e] at e'
  injection e' with e'
  injection e' with e1 e2
  subst e1 e2
  rw [mL_eq hi]
  exact ⟨c0, c1, c2, c3, c4⟩
theorem mgood_any {x : M5} {w : World} (h : x.Ok w) (W : World) : Calls Try.prog 39 #[.agg #[.slice x.A x.l.length x.c, .int .i64 x.o, .int .i64 x.r, .int .i64 x.k, .int .i64 x.L]] W fun e w' => e = .returned (.bool (goodM x)) ∧ Below W.heap.size W w' :=
  good_any x.A x.l.length x.c x.o x.r x.k x.L W (by have := h.lc; have := h.cb; omega) h.io h.ir h.ik h.iL

set_option maxHeartbeats 2000000 in
theorem gefollow_nil (A : Option Addr) (c : Nat) (w : World) : Calls Try.prog 36 #[.slice A 0 c] w fun e w' => e = .returned (.int .i64 1) ∧ Below w.heap.size w w' := by
  have HB := Lib.hid (Below.refl w.heap.size w)
  go_enter Try.func36, Try.ntmps36
  go_wp2_with fail
  go_ret
  exact ⟨rfl, HB.out⟩
set_option maxRecDepth 100000 in
set_option maxHeartbeats 2000000 in
theorem gefollow_bad (b o n c : Nat) (L : List M5) (w : World) (hM : MlC w b o n L) (hL : L.length = n) (hn : n < 1048576) (hn0 : 0 < n) (hOk : ∀ i, i < n → (mL L i).Ok w) (p : Nat) (hp : p < n) (hg : ∀ i, i < p → goodM (mL L i) = true) (hb : goodM (mL L p) = false) :
    Calls Try.prog 36 #[.slice (some ⟨b, o, none⟩) n c] w fun e w' => e = .returned (.int .i64 1) ∧ Below w.heap.size w w' := by
  have HM := Lib.hid hM
  have HGd := Lib.hid (fun i (h : i < n) W => mgood_any (hOk i h) W)
  have t0 : ((n : Int) == 0) = false := by simp; omega
  have t0' : (n == 0) = false := by simp; omega
  have HGt := Lib.hid hg
  have HGf := Lib.hid hb
  have Hpn := Lib.hid hp
  clear hM hL hn0 hOk hg hb hp
  go_enter Try.func36, Try.ntmps36
  go_wp2_with fail
  go_loopw [12] (fun a wr => ∃ q : Nat, q ≤ p ∧ a = .int .i64 q ∧ Hid (Below w.heap.size w wr)) (fun a _ => p + 1 - (intOf a).toNat)
  case atStart => exact ⟨0, Nat.zero_le _, rfl, Lib.hid (Below.refl _ _)⟩
  case round =>
    obtain ⟨q, hq, rfl, HBr⟩ := hrel
    by_cases hlt : q < p
    · have hpn := Hpn.out
      have hqn : q < n := by omega
      clear hpn
      have hqi : (q : Int) < (n : Int) := by omega
      have hq1 : q + 1 ≤ 1048576 := by omega
      have HGq := Lib.hid (fun W => HGd.out q hqn W)
      rw [HGt.out q (by omega)] at HGq
      obtain ⟨c0, c1, c2, c3, c4⟩ := HM.out.below HBr.out q hqn
      have HZ := Lib.hid (Blk.new wr 25 #[.slice (mL L q).A (mL L q).l.length (mL L q).c, .int .i64 (mL L q).o, .int .i64 (mL L q).r, .int .i64 (mL L q).k, .int .i64 (mL L q).L])
      have HB2 := Lib.hid (below_al HBr.out (o := .cells #[.slice (mL L q).A (mL L q).l.length (mL L q).c, .int .i64 (mL L q).o, .int .i64 (mL L q).r, .int .i64 (mL L q).k, .int .i64 (mL L q).L] 25))
      go_wp2_with fail
      clear c0 c1 c2 c3 c4
      refine (HGq.out _).mono ?_
      rintro e w2 ⟨rfl, hb⟩
      have HB3 := Lib.hid (below_nx HB2.out hb)
      clear hb
      go_wp2_with fail
      go_roundw
      case rel => exact ⟨q + 1, by omega, by go_num, HB3⟩
      case measure => simp [intOf]; omega
    · obtain rfl : q = p := by omega
      have hqn : q < n := by have := Hpn.out; omega
      have hqi : (q : Int) < (n : Int) := by omega
      have hq1 : q + 1 ≤ 1048576 := by omega
      have HGq := Lib.hid (fun W => HGd.out q hqn W)
      rw [HGf.out] at HGq
      obtain ⟨c0, c1, c2, c3, c4⟩ := HM.out.below HBr.out q hqn
      have HZ := Lib.hid (Blk.new wr 25 #[.slice (mL L q).A (mL L q).l.length (mL L q).c, .int .i64 (mL L q).o, .int .i64 (mL L q).r, .int .i64 (mL L q).k, .int .i64 (mL L q).L])
      have HB2 := Lib.hid (below_al HBr.out (o := .cells #[.slice (mL L q).A (mL L q).l.length (mL L q).c, .int .i64 (mL L q).o, .int .i64 (mL L q).r, .int .i64 (mL L q).k, .int .i64 (mL L q).L] 25))
      go_wp2_with fail
      clear c0 c1 c2 c3 c4
      refine (HGq.out _).mono ?_
      rintro e w2 ⟨rfl, hb⟩
      have HB3 := Lib.hid (below_nx HB2.out hb)
      clear hb
      go_wp2_with fail
      go_ret
      exact ⟨rfl, HB3.out⟩

set_option maxRecDepth 100000 in
set_option maxHeartbeats 2000000 in
theorem gefollow_ok (b o n c : Nat) (L : List M5) (w : World) (hM : MlC w b o n L) (hL : L.length = n) (hn : n < 1048576) (hn0 : 0 < n) (hOk : ∀ i, i < n → (mL L i).Ok w) (Rn Kn : Nat → Nat) (hg : ∀ i, i < n → goodM (mL L i) = true) (hD : ∀ i, i < n → (mL L i).r = (Rn i : Int) ∧ (mL L i).k = (Kn i : Int) ∧ Rn i ≤ 64 ∧ Kn i ≤ 64) (hch : ∀ i, 1 ≤ i → i < n → Kn (i - 1) = Rn i) :
    Calls Try.prog 36 #[.slice (some ⟨b, o, none⟩) n c] w fun e w' => e = .returned (.int .i64 0) ∧ Below w.heap.size w w' := by
  have HM := Lib.hid hM
  have HGd := Lib.hid (fun i (h : i < n) W => mgood_any (hOk i h) W)
  have t0 : ((n : Int) == 0) = false := by simp; omega
  have t0' : (n == 0) = false := by simp; omega
  have HGt := Lib.hid hg
  have HD := Lib.hid hD
  have HCh := Lib.hid hch
  have Hn0 := Lib.hid hn0
  clear hM hL hn0 hOk hg hD hch
  go_enter Try.func36, Try.ntmps36
  go_wp2_with fail
  go_loopw [12] (fun a wr => ∃ q : Nat, q ≤ n ∧ a = .int .i64 q ∧ Hid (Below w.heap.size w wr)) (fun a _ => n + 1 - (intOf a).toNat)
  case atStart => exact ⟨0, Nat.zero_le _, rfl, Lib.hid (Below.refl _ _)⟩
  case round =>
    obtain ⟨q, hq, rfl, HBr⟩ := hrel
    by_cases hlt : q < n
    · skip
      have hqn : q < n := by have := hlt; omega
      have hqi : (q : Int) < (n : Int) := by omega
      have hq1 : q + 1 ≤ 1048576 := by omega
      have HGq := Lib.hid (fun W => HGd.out q hqn W)
      rw [HGt.out q (by omega)] at HGq
      obtain ⟨c0, c1, c2, c3, c4⟩ := HM.out.below HBr.out q hqn
      have HZ := Lib.hid (Blk.new wr 25 #[.slice (mL L q).A (mL L q).l.length (mL L q).c, .int .i64 (mL L q).o, .int .i64 (mL L q).r, .int .i64 (mL L q).k, .int .i64 (mL L q).L])
      have HB2 := Lib.hid (below_al HBr.out (o := .cells #[.slice (mL L q).A (mL L q).l.length (mL L q).c, .int .i64 (mL L q).o, .int .i64 (mL L q).r, .int .i64 (mL L q).k, .int .i64 (mL L q).L] 25))
      go_wp2_with fail
      clear c0 c1 c2 c3 c4
      refine (HGq.out _).mono ?_
      rintro e w2 ⟨rfl, hb⟩
      have HB3 := Lib.hid (below_nx HB2.out hb)
      clear hb
      go_wp2_with fail
      go_roundw
      case rel => exact ⟨q + 1, by omega, by go_num, HB3⟩
      case measure => simp [intOf]; omega
    · obtain rfl : n = q := by omega
      have hqc : ¬ (n : Int) < (n : Int) := by omega
      go_wp2_with fail
      go_loopw [22] (fun a wr => ∃ q : Nat, q ≤ n ∧ a = .int .i64 q ∧ Hid (Below w.heap.size w wr)) (fun a _ => n + 1 - (intOf a).toNat)
      case atStart => exact ⟨0, Nat.zero_le _, rfl, HBr⟩
      case round =>
        clear HBr
        obtain ⟨q, hq, rfl, HBr⟩ := hrel
        by_cases hlt : q < n
        · by_cases hz : q = 0
          · skip
            have hqn : q < n := by have := Hn0.out; omega
            have hqi : (q : Int) < (n : Int) := by omega
            have hq1 : q + 1 ≤ 1048576 := by omega
            obtain ⟨hdr, hdk, hdr64, hdk64⟩ := HD.out q hqn
            obtain ⟨c0, c1, c2, c3, c4⟩ := HM.out.below HBr.out q hqn
            rw [hdr] at c2
            rw [hdk] at c3
            obtain ⟨R2, hR2⟩ : ∃ R2, Rn q = R2 := ⟨_, rfl⟩
            obtain ⟨K2, hK2⟩ : ∃ K2, Kn q = K2 := ⟨_, rfl⟩
            rw [hR2] at c2 hdr64
            rw [hK2] at c3 hdk64
            obtain ⟨A2, hA2⟩ : ∃ A2, (mL L q).A = A2 := ⟨_, rfl⟩
            obtain ⟨n2, hn2⟩ : ∃ n2, (mL L q).l.length = n2 := ⟨_, rfl⟩
            obtain ⟨c2', hc2⟩ : ∃ c2', (mL L q).c = c2' := ⟨_, rfl⟩
            obtain ⟨o2, ho2⟩ : ∃ o2, (mL L q).o = o2 := ⟨_, rfl⟩
            obtain ⟨L2, hL2⟩ : ∃ L2, (mL L q).L = L2 := ⟨_, rfl⟩
            rw [hA2, hn2, hc2] at c0
            rw [ho2] at c1
            rw [hL2] at c4
            have e64 : decide ((64 : Int) < ((max R2 K2 : Nat) : Int)) = false := decide_eq_false (by omega)
            have e64' : decide (64 < max R2 K2) = false := decide_eq_false (by omega)
            have d0 : decide ((0 : Int) < (q : Int)) = false := decide_eq_false (by omega)
            have d0' : decide (0 < q) = false := decide_eq_false (by omega)
            have HZ0 := Lib.hid (Blk.new wr 25 #[.slice A2 n2 c2', .int .i64 o2, .int .i64 (R2 : Int), .int .i64 (K2 : Int), .int .i64 L2])
            have HB20 := Lib.hid (below_al HBr.out (o := .cells #[.slice A2 n2 c2', .int .i64 o2, .int .i64 (R2 : Int), .int .i64 (K2 : Int), .int .i64 L2] 25))
            clear hdr hdk hdr64 hdk64 hR2 hK2 hA2 hn2 hc2 ho2 hL2 hz
            go_wp2_with fail
            clear c0 c1 c2 c3 c4
            generalize hwz : wr.alloc (.cells #[.slice A2 n2 c2', .int .i64 o2, .int .i64 (R2 : Int), .int .i64 (K2 : Int), .int .i64 L2] 25) = wz at *
            generalize hzb : wr.heap.size = zb at *
            have HZ := HZ0
            have HB2 := HB20
            clear hwz hzb HZ0 HB20
            refine wp_region_invG [27, 28, 29, 30, 31, 32, 33, 34, 35, 36, 37, 38, 39, 40, 41, 42, 43, 44, 45, 46, 47] (fun d s W => (d 0 = true → s 27 = .pointer (some ⟨zb, 2, none⟩)) ∧ (d 1 = true → s 28 = .int .i64 (R2 : Int)) ∧ (d 2 = true → s 29 = .pointer (some ⟨zb, 3, none⟩)) ∧ (d 3 = true → s 30 = .int .i64 (K2 : Int)) ∧ (d 4 = true → s 31 = .int .i64 ((max R2 K2 : Nat) : Int)) ∧ (d 5 = true → s 32 = .bool false) ∧ (d 6 = true → s 33 = .bool false) ∧ (d 7 = true → s 34 = .int .i64 (q : Int)) ∧ (d 8 = true → s 35 = .bool false) ∧ (d 9 = true → s 36 = .bool false) ∧ (d 10 = true → s 37 = undef) ∧ (d 11 = true → s 38 = undef) ∧ (d 12 = true → s 39 = undef) ∧ (d 13 = true → s 40 = undef) ∧ (d 14 = true → s 41 = undef) ∧ (d 15 = true → s 42 = undef) ∧ (d 16 = true → s 43 = undef) ∧ (d 17 = true → s 44 = undef) ∧ (d 18 = true → s 45 = undef) ∧ (d 19 = true → s 46 = .bool false) ∧ (d 20 = true → s 47 = .bool false) ∧ Below wz.heap.size wz W)
              rfl (by kernel_rfl) ?_ ?_ ?_
            · exact ⟨by simp, by simp, by simp, by simp, by simp, by simp, by simp, by simp, by simp, by simp, by simp, by simp, by simp, by simp, by simp, by simp, by simp, by simp, by simp, by simp, by simp, (Below.refl _ _).drew⟩
            · refine ⟨?_, ?_, ?_, ?_, ?_, ?_, ?_, ?_, ?_, ?_, ?_, ?_, ?_, ?_, ?_, ?_, ?_, ?_, ?_, ?_, ?_, trivial⟩
              all_goals
                intro d s W hJ hfr hd hdep
                simp only [List.mem_cons, forall_eq_or_imp, List.not_mem_nil, false_implies, implies_true, and_true, Region.binds] at hdep
                have f0 := hfr 0 (by decide)
                have f5 := hfr 5 (by decide)
                have f6 := hfr 6 (by decide)
                simp at f0 f5 f6 hdep
                obtain ⟨h0, h1, h2, h3, h4, h5, h6, h7, h8, h9, h10, h11, h12, h13, h14, h15, h16, h17, h18, h19, h20, hT⟩ := hJ
              · refine stepG_plain rfl ?_
                unfold OpSteps
                simp [go_sem, evS, f6]
                exact ⟨fun _ => by simp [sput], fun h => by simpa [sput] using h1 (by simpa [did] using h), fun h => by simpa [sput] using h2 (by simpa [did] using h), fun h => by simpa [sput] using h3 (by simpa [did] using h), fun h => by simpa [sput] using h4 (by simpa [did] using h), fun h => by simpa [sput] using h5 (by simpa [did] using h), fun h => by simpa [sput] using h6 (by simpa [did] using h), fun h => by simpa [sput] using h7 (by simpa [did] using h), fun h => by simpa [sput] using h8 (by simpa [did] using h), fun h => by simpa [sput] using h9 (by simpa [did] using h), fun h => by simpa [sput] using h10 (by simpa [did] using h), fun h => by simpa [sput] using h11 (by simpa [did] using h), fun h => by simpa [sput] using h12 (by simpa [did] using h), fun h => by simpa [sput] using h13 (by simpa [did] using h), fun h => by simpa [sput] using h14 (by simpa [did] using h), fun h => by simpa [sput] using h15 (by simpa [did] using h), fun h => by simpa [sput] using h16 (by simpa [did] using h), fun h => by simpa [sput] using h17 (by simpa [did] using h), fun h => by simpa [sput] using h18 (by simpa [did] using h), fun h => by simpa [sput] using h19 (by simpa [did] using h), fun h => by simpa [sput] using h20 (by simpa [did] using h), hT⟩
              · have g0 := h0 (by simp [hdep])
                refine stepG_plain rfl ?_
                unfold OpSteps
                obtain ⟨p0, p1, p2, p3, p4⟩ := cells5 (HZ.out.below hT HZ.out.lt)
                simp [go_sem, evS, g0, p0, p1, p2, p3, p4]
                exact ⟨fun h => by simpa [sput] using h0 (by simpa [did] using h), fun _ => by simp [sput], fun h => by simpa [sput] using h2 (by simpa [did] using h), fun h => by simpa [sput] using h3 (by simpa [did] using h), fun h => by simpa [sput] using h4 (by simpa [did] using h), fun h => by simpa [sput] using h5 (by simpa [did] using h), fun h => by simpa [sput] using h6 (by simpa [did] using h), fun h => by simpa [sput] using h7 (by simpa [did] using h), fun h => by simpa [sput] using h8 (by simpa [did] using h), fun h => by simpa [sput] using h9 (by simpa [did] using h), fun h => by simpa [sput] using h10 (by simpa [did] using h), fun h => by simpa [sput] using h11 (by simpa [did] using h), fun h => by simpa [sput] using h12 (by simpa [did] using h), fun h => by simpa [sput] using h13 (by simpa [did] using h), fun h => by simpa [sput] using h14 (by simpa [did] using h), fun h => by simpa [sput] using h15 (by simpa [did] using h), fun h => by simpa [sput] using h16 (by simpa [did] using h), fun h => by simpa [sput] using h17 (by simpa [did] using h), fun h => by simpa [sput] using h18 (by simpa [did] using h), fun h => by simpa [sput] using h19 (by simpa [did] using h), fun h => by simpa [sput] using h20 (by simpa [did] using h), hT⟩
              · refine stepG_plain rfl ?_
                unfold OpSteps
                simp [go_sem, evS, f6]
                exact ⟨fun h => by simpa [sput] using h0 (by simpa [did] using h), fun h => by simpa [sput] using h1 (by simpa [did] using h), fun _ => by simp [sput], fun h => by simpa [sput] using h3 (by simpa [did] using h), fun h => by simpa [sput] using h4 (by simpa [did] using h), fun h => by simpa [sput] using h5 (by simpa [did] using h), fun h => by simpa [sput] using h6 (by simpa [did] using h), fun h => by simpa [sput] using h7 (by simpa [did] using h), fun h => by simpa [sput] using h8 (by simpa [did] using h), fun h => by simpa [sput] using h9 (by simpa [did] using h), fun h => by simpa [sput] using h10 (by simpa [did] using h), fun h => by simpa [sput] using h11 (by simpa [did] using h), fun h => by simpa [sput] using h12 (by simpa [did] using h), fun h => by simpa [sput] using h13 (by simpa [did] using h), fun h => by simpa [sput] using h14 (by simpa [did] using h), fun h => by simpa [sput] using h15 (by simpa [did] using h), fun h => by simpa [sput] using h16 (by simpa [did] using h), fun h => by simpa [sput] using h17 (by simpa [did] using h), fun h => by simpa [sput] using h18 (by simpa [did] using h), fun h => by simpa [sput] using h19 (by simpa [did] using h), fun h => by simpa [sput] using h20 (by simpa [did] using h), hT⟩
              · have g2 := h2 (by simp [hdep])
                refine stepG_plain rfl ?_
                unfold OpSteps
                obtain ⟨p0, p1, p2, p3, p4⟩ := cells5 (HZ.out.below hT HZ.out.lt)
                simp [go_sem, evS, g2, p0, p1, p2, p3, p4]
                exact ⟨fun h => by simpa [sput] using h0 (by simpa [did] using h), fun h => by simpa [sput] using h1 (by simpa [did] using h), fun h => by simpa [sput] using h2 (by simpa [did] using h), fun _ => by simp [sput], fun h => by simpa [sput] using h4 (by simpa [did] using h), fun h => by simpa [sput] using h5 (by simpa [did] using h), fun h => by simpa [sput] using h6 (by simpa [did] using h), fun h => by simpa [sput] using h7 (by simpa [did] using h), fun h => by simpa [sput] using h8 (by simpa [did] using h), fun h => by simpa [sput] using h9 (by simpa [did] using h), fun h => by simpa [sput] using h10 (by simpa [did] using h), fun h => by simpa [sput] using h11 (by simpa [did] using h), fun h => by simpa [sput] using h12 (by simpa [did] using h), fun h => by simpa [sput] using h13 (by simpa [did] using h), fun h => by simpa [sput] using h14 (by simpa [did] using h), fun h => by simpa [sput] using h15 (by simpa [did] using h), fun h => by simpa [sput] using h16 (by simpa [did] using h), fun h => by simpa [sput] using h17 (by simpa [did] using h), fun h => by simpa [sput] using h18 (by simpa [did] using h), fun h => by simpa [sput] using h19 (by simpa [did] using h), fun h => by simpa [sput] using h20 (by simpa [did] using h), hT⟩
              · have g1 := h1 (by simp [hdep])
                have g3 := h3 (by simp [hdep])
                refine stepG_plain rfl ?_
                unfold OpSteps
                simp [go_sem, evS, g1, g3]
                exact ⟨fun h => by simpa [sput] using h0 (by simpa [did] using h), fun h => by simpa [sput] using h1 (by simpa [did] using h), fun h => by simpa [sput] using h2 (by simpa [did] using h), fun h => by simpa [sput] using h3 (by simpa [did] using h), fun _ => by simp [sput], fun h => by simpa [sput] using h5 (by simpa [did] using h), fun h => by simpa [sput] using h6 (by simpa [did] using h), fun h => by simpa [sput] using h7 (by simpa [did] using h), fun h => by simpa [sput] using h8 (by simpa [did] using h), fun h => by simpa [sput] using h9 (by simpa [did] using h), fun h => by simpa [sput] using h10 (by simpa [did] using h), fun h => by simpa [sput] using h11 (by simpa [did] using h), fun h => by simpa [sput] using h12 (by simpa [did] using h), fun h => by simpa [sput] using h13 (by simpa [did] using h), fun h => by simpa [sput] using h14 (by simpa [did] using h), fun h => by simpa [sput] using h15 (by simpa [did] using h), fun h => by simpa [sput] using h16 (by simpa [did] using h), fun h => by simpa [sput] using h17 (by simpa [did] using h), fun h => by simpa [sput] using h18 (by simpa [did] using h), fun h => by simpa [sput] using h19 (by simpa [did] using h), fun h => by simpa [sput] using h20 (by simpa [did] using h), hT⟩
              · have g4 := h4 (by simp [hdep])
                refine stepG_plain rfl ?_
                unfold OpSteps
                simp [go_sem, evS, g4, e64, e64']
                exact ⟨fun h => by simpa [sput] using h0 (by simpa [did] using h), fun h => by simpa [sput] using h1 (by simpa [did] using h), fun h => by simpa [sput] using h2 (by simpa [did] using h), fun h => by simpa [sput] using h3 (by simpa [did] using h), fun h => by simpa [sput] using h4 (by simpa [did] using h), fun _ => by simp [sput], fun h => by simpa [sput] using h6 (by simpa [did] using h), fun h => by simpa [sput] using h7 (by simpa [did] using h), fun h => by simpa [sput] using h8 (by simpa [did] using h), fun h => by simpa [sput] using h9 (by simpa [did] using h), fun h => by simpa [sput] using h10 (by simpa [did] using h), fun h => by simpa [sput] using h11 (by simpa [did] using h), fun h => by simpa [sput] using h12 (by simpa [did] using h), fun h => by simpa [sput] using h13 (by simpa [did] using h), fun h => by simpa [sput] using h14 (by simpa [did] using h), fun h => by simpa [sput] using h15 (by simpa [did] using h), fun h => by simpa [sput] using h16 (by simpa [did] using h), fun h => by simpa [sput] using h17 (by simpa [did] using h), fun h => by simpa [sput] using h18 (by simpa [did] using h), fun h => by simpa [sput] using h19 (by simpa [did] using h), fun h => by simpa [sput] using h20 (by simpa [did] using h), hT⟩
              · have g5 := h5 (by simp [hdep])
                refine stepG_plain rfl ?_
                unfold OpSteps
                simp [go_sem, evS, g5]
                exact ⟨fun h => by simpa [sput] using h0 (by simpa [did] using h), fun h => by simpa [sput] using h1 (by simpa [did] using h), fun h => by simpa [sput] using h2 (by simpa [did] using h), fun h => by simpa [sput] using h3 (by simpa [did] using h), fun h => by simpa [sput] using h4 (by simpa [did] using h), fun h => by simpa [sput] using h5 (by simpa [did] using h), fun _ => by simp [sput], fun h => by simpa [sput] using h7 (by simpa [did] using h), fun h => by simpa [sput] using h8 (by simpa [did] using h), fun h => by simpa [sput] using h9 (by simpa [did] using h), fun h => by simpa [sput] using h10 (by simpa [did] using h), fun h => by simpa [sput] using h11 (by simpa [did] using h), fun h => by simpa [sput] using h12 (by simpa [did] using h), fun h => by simpa [sput] using h13 (by simpa [did] using h), fun h => by simpa [sput] using h14 (by simpa [did] using h), fun h => by simpa [sput] using h15 (by simpa [did] using h), fun h => by simpa [sput] using h16 (by simpa [did] using h), fun h => by simpa [sput] using h17 (by simpa [did] using h), fun h => by simpa [sput] using h18 (by simpa [did] using h), fun h => by simpa [sput] using h19 (by simpa [did] using h), fun h => by simpa [sput] using h20 (by simpa [did] using h), hT⟩
              · have g6 := h6 (by simp [hdep])
                refine stepG_on 6 33 false rfl rfl g6 ?_
                unfold OpSteps
                simp [go_sem, evS, f5, g6]
                exact ⟨fun h => by simpa [sput] using h0 (by simpa [did] using h), fun h => by simpa [sput] using h1 (by simpa [did] using h), fun h => by simpa [sput] using h2 (by simpa [did] using h), fun h => by simpa [sput] using h3 (by simpa [did] using h), fun h => by simpa [sput] using h4 (by simpa [did] using h), fun h => by simpa [sput] using h5 (by simpa [did] using h), fun h => by simpa [sput] using h6 (by simpa [did] using h), fun _ => by simp [sput], fun h => by simpa [sput] using h8 (by simpa [did] using h), fun h => by simpa [sput] using h9 (by simpa [did] using h), fun h => by simpa [sput] using h10 (by simpa [did] using h), fun h => by simpa [sput] using h11 (by simpa [did] using h), fun h => by simpa [sput] using h12 (by simpa [did] using h), fun h => by simpa [sput] using h13 (by simpa [did] using h), fun h => by simpa [sput] using h14 (by simpa [did] using h), fun h => by simpa [sput] using h15 (by simpa [did] using h), fun h => by simpa [sput] using h16 (by simpa [did] using h), fun h => by simpa [sput] using h17 (by simpa [did] using h), fun h => by simpa [sput] using h18 (by simpa [did] using h), fun h => by simpa [sput] using h19 (by simpa [did] using h), fun h => by simpa [sput] using h20 (by simpa [did] using h), hT⟩
              · have g7 := h7 (by simp [hdep])
                have g6 := h6 (by simp [hdep])
                refine stepG_on 6 33 false rfl rfl g6 ?_
                unfold OpSteps
                simp [go_sem, evS, g7, g6, d0, d0']
                exact ⟨fun h => by simpa [sput] using h0 (by simpa [did] using h), fun h => by simpa [sput] using h1 (by simpa [did] using h), fun h => by simpa [sput] using h2 (by simpa [did] using h), fun h => by simpa [sput] using h3 (by simpa [did] using h), fun h => by simpa [sput] using h4 (by simpa [did] using h), fun h => by simpa [sput] using h5 (by simpa [did] using h), fun h => by simpa [sput] using h6 (by simpa [did] using h), fun h => by simpa [sput] using h7 (by simpa [did] using h), fun _ => by simp [sput], fun h => by simpa [sput] using h9 (by simpa [did] using h), fun h => by simpa [sput] using h10 (by simpa [did] using h), fun h => by simpa [sput] using h11 (by simpa [did] using h), fun h => by simpa [sput] using h12 (by simpa [did] using h), fun h => by simpa [sput] using h13 (by simpa [did] using h), fun h => by simpa [sput] using h14 (by simpa [did] using h), fun h => by simpa [sput] using h15 (by simpa [did] using h), fun h => by simpa [sput] using h16 (by simpa [did] using h), fun h => by simpa [sput] using h17 (by simpa [did] using h), fun h => by simpa [sput] using h18 (by simpa [did] using h), fun h => by simpa [sput] using h19 (by simpa [did] using h), fun h => by simpa [sput] using h20 (by simpa [did] using h), hT⟩
              · have g8 := h8 (by simp [hdep])
                have g6 := h6 (by simp [hdep])
                refine stepG_on 6 33 false rfl rfl g6 ?_
                unfold OpSteps
                simp [go_sem, evS, g8, g6]
                exact ⟨fun h => by simpa [sput] using h0 (by simpa [did] using h), fun h => by simpa [sput] using h1 (by simpa [did] using h), fun h => by simpa [sput] using h2 (by simpa [did] using h), fun h => by simpa [sput] using h3 (by simpa [did] using h), fun h => by simpa [sput] using h4 (by simpa [did] using h), fun h => by simpa [sput] using h5 (by simpa [did] using h), fun h => by simpa [sput] using h6 (by simpa [did] using h), fun h => by simpa [sput] using h7 (by simpa [did] using h), fun h => by simpa [sput] using h8 (by simpa [did] using h), fun _ => by simp [sput], fun h => by simpa [sput] using h10 (by simpa [did] using h), fun h => by simpa [sput] using h11 (by simpa [did] using h), fun h => by simpa [sput] using h12 (by simpa [did] using h), fun h => by simpa [sput] using h13 (by simpa [did] using h), fun h => by simpa [sput] using h14 (by simpa [did] using h), fun h => by simpa [sput] using h15 (by simpa [did] using h), fun h => by simpa [sput] using h16 (by simpa [did] using h), fun h => by simpa [sput] using h17 (by simpa [did] using h), fun h => by simpa [sput] using h18 (by simpa [did] using h), fun h => by simpa [sput] using h19 (by simpa [did] using h), fun h => by simpa [sput] using h20 (by simpa [did] using h), hT⟩
              · have g9 := h9 (by simp [hdep])
                refine stepG_off 9 36 true rfl rfl (by rw [g9]; rfl) ?_
                exact ⟨fun h => by simpa [sput] using h0 (by simpa [did] using h), fun h => by simpa [sput] using h1 (by simpa [did] using h), fun h => by simpa [sput] using h2 (by simpa [did] using h), fun h => by simpa [sput] using h3 (by simpa [did] using h), fun h => by simpa [sput] using h4 (by simpa [did] using h), fun h => by simpa [sput] using h5 (by simpa [did] using h), fun h => by simpa [sput] using h6 (by simpa [did] using h), fun h => by simpa [sput] using h7 (by simpa [did] using h), fun h => by simpa [sput] using h8 (by simpa [did] using h), fun h => by simpa [sput] using h9 (by simpa [did] using h), fun _ => by simp [sput], fun h => by simpa [sput] using h11 (by simpa [did] using h), fun h => by simpa [sput] using h12 (by simpa [did] using h), fun h => by simpa [sput] using h13 (by simpa [did] using h), fun h => by simpa [sput] using h14 (by simpa [did] using h), fun h => by simpa [sput] using h15 (by simpa [did] using h), fun h => by simpa [sput] using h16 (by simpa [did] using h), fun h => by simpa [sput] using h17 (by simpa [did] using h), fun h => by simpa [sput] using h18 (by simpa [did] using h), fun h => by simpa [sput] using h19 (by simpa [did] using h), fun h => by simpa [sput] using h20 (by simpa [did] using h), hT⟩
              · have g9 := h9 (by simp [hdep])
                refine stepG_off 9 36 true rfl rfl (by rw [g9]; rfl) ?_
                exact ⟨fun h => by simpa [sput] using h0 (by simpa [did] using h), fun h => by simpa [sput] using h1 (by simpa [did] using h), fun h => by simpa [sput] using h2 (by simpa [did] using h), fun h => by simpa [sput] using h3 (by simpa [did] using h), fun h => by simpa [sput] using h4 (by simpa [did] using h), fun h => by simpa [sput] using h5 (by simpa [did] using h), fun h => by simpa [sput] using h6 (by simpa [did] using h), fun h => by simpa [sput] using h7 (by simpa [did] using h), fun h => by simpa [sput] using h8 (by simpa [did] using h), fun h => by simpa [sput] using h9 (by simpa [did] using h), fun h => by simpa [sput] using h10 (by simpa [did] using h), fun _ => by simp [sput], fun h => by simpa [sput] using h12 (by simpa [did] using h), fun h => by simpa [sput] using h13 (by simpa [did] using h), fun h => by simpa [sput] using h14 (by simpa [did] using h), fun h => by simpa [sput] using h15 (by simpa [did] using h), fun h => by simpa [sput] using h16 (by simpa [did] using h), fun h => by simpa [sput] using h17 (by simpa [did] using h), fun h => by simpa [sput] using h18 (by simpa [did] using h), fun h => by simpa [sput] using h19 (by simpa [did] using h), fun h => by simpa [sput] using h20 (by simpa [did] using h), hT⟩
              · have g9 := h9 (by simp [hdep])
                refine stepG_off 9 36 true rfl rfl (by rw [g9]; rfl) ?_
                exact ⟨fun h => by simpa [sput] using h0 (by simpa [did] using h), fun h => by simpa [sput] using h1 (by simpa [did] using h), fun h => by simpa [sput] using h2 (by simpa [did] using h), fun h => by simpa [sput] using h3 (by simpa [did] using h), fun h => by simpa [sput] using h4 (by simpa [did] using h), fun h => by simpa [sput] using h5 (by simpa [did] using h), fun h => by simpa [sput] using h6 (by simpa [did] using h), fun h => by simpa [sput] using h7 (by simpa [did] using h), fun h => by simpa [sput] using h8 (by simpa [did] using h), fun h => by simpa [sput] using h9 (by simpa [did] using h), fun h => by simpa [sput] using h10 (by simpa [did] using h), fun h => by simpa [sput] using h11 (by simpa [did] using h), fun _ => by simp [sput], fun h => by simpa [sput] using h13 (by simpa [did] using h), fun h => by simpa [sput] using h14 (by simpa [did] using h), fun h => by simpa [sput] using h15 (by simpa [did] using h), fun h => by simpa [sput] using h16 (by simpa [did] using h), fun h => by simpa [sput] using h17 (by simpa [did] using h), fun h => by simpa [sput] using h18 (by simpa [did] using h), fun h => by simpa [sput] using h19 (by simpa [did] using h), fun h => by simpa [sput] using h20 (by simpa [did] using h), hT⟩
              · have g9 := h9 (by simp [hdep])
                refine stepG_off 9 36 true rfl rfl (by rw [g9]; rfl) ?_
                exact ⟨fun h => by simpa [sput] using h0 (by simpa [did] using h), fun h => by simpa [sput] using h1 (by simpa [did] using h), fun h => by simpa [sput] using h2 (by simpa [did] using h), fun h => by simpa [sput] using h3 (by simpa [did] using h), fun h => by simpa [sput] using h4 (by simpa [did] using h), fun h => by simpa [sput] using h5 (by simpa [did] using h), fun h => by simpa [sput] using h6 (by simpa [did] using h), fun h => by simpa [sput] using h7 (by simpa [did] using h), fun h => by simpa [sput] using h8 (by simpa [did] using h), fun h => by simpa [sput] using h9 (by simpa [did] using h), fun h => by simpa [sput] using h10 (by simpa [did] using h), fun h => by simpa [sput] using h11 (by simpa [did] using h), fun h => by simpa [sput] using h12 (by simpa [did] using h), fun _ => by simp [sput], fun h => by simpa [sput] using h14 (by simpa [did] using h), fun h => by simpa [sput] using h15 (by simpa [did] using h), fun h => by simpa [sput] using h16 (by simpa [did] using h), fun h => by simpa [sput] using h17 (by simpa [did] using h), fun h => by simpa [sput] using h18 (by simpa [did] using h), fun h => by simpa [sput] using h19 (by simpa [did] using h), fun h => by simpa [sput] using h20 (by simpa [did] using h), hT⟩
              · have g9 := h9 (by simp [hdep])
                refine stepG_off 9 36 true rfl rfl (by rw [g9]; rfl) ?_
                exact ⟨fun h => by simpa [sput] using h0 (by simpa [did] using h), fun h => by simpa [sput] using h1 (by simpa [did] using h), fun h => by simpa [sput] using h2 (by simpa [did] using h), fun h => by simpa [sput] using h3 (by simpa [did] using h), fun h => by simpa [sput] using h4 (by simpa [did] using h), fun h => by simpa [sput] using h5 (by simpa [did] using h), fun h => by simpa [sput] using h6 (by simpa [did] using h), fun h => by simpa [sput] using h7 (by simpa [did] using h), fun h => by simpa [sput] using h8 (by simpa [did] using h), fun h => by simpa [sput] using h9 (by simpa [did] using h), fun h => by simpa [sput] using h10 (by simpa [did] using h), fun h => by simpa [sput] using h11 (by simpa [did] using h), fun h => by simpa [sput] using h12 (by simpa [did] using h), fun h => by simpa [sput] using h13 (by simpa [did] using h), fun _ => by simp [sput], fun h => by simpa [sput] using h15 (by simpa [did] using h), fun h => by simpa [sput] using h16 (by simpa [did] using h), fun h => by simpa [sput] using h17 (by simpa [did] using h), fun h => by simpa [sput] using h18 (by simpa [did] using h), fun h => by simpa [sput] using h19 (by simpa [did] using h), fun h => by simpa [sput] using h20 (by simpa [did] using h), hT⟩
              · have g9 := h9 (by simp [hdep])
                refine stepG_off 9 36 true rfl rfl (by rw [g9]; rfl) ?_
                exact ⟨fun h => by simpa [sput] using h0 (by simpa [did] using h), fun h => by simpa [sput] using h1 (by simpa [did] using h), fun h => by simpa [sput] using h2 (by simpa [did] using h), fun h => by simpa [sput] using h3 (by simpa [did] using h), fun h => by simpa [sput] using h4 (by simpa [did] using h), fun h => by simpa [sput] using h5 (by simpa [did] using h), fun h => by simpa [sput] using h6 (by simpa [did] using h), fun h => by simpa [sput] using h7 (by simpa [did] using h), fun h => by simpa [sput] using h8 (by simpa [did] using h), fun h => by simpa [sput] using h9 (by simpa [did] using h), fun h => by simpa [sput] using h10 (by simpa [did] using h), fun h => by simpa [sput] using h11 (by simpa [did] using h), fun h => by simpa [sput] using h12 (by simpa [did] using h), fun h => by simpa [sput] using h13 (by simpa [did] using h), fun h => by simpa [sput] using h14 (by simpa [did] using h), fun _ => by simp [sput], fun h => by simpa [sput] using h16 (by simpa [did] using h), fun h => by simpa [sput] using h17 (by simpa [did] using h), fun h => by simpa [sput] using h18 (by simpa [did] using h), fun h => by simpa [sput] using h19 (by simpa [did] using h), fun h => by simpa [sput] using h20 (by simpa [did] using h), hT⟩
              · have g9 := h9 (by simp [hdep])
                refine stepG_off 9 36 true rfl rfl (by rw [g9]; rfl) ?_
                exact ⟨fun h => by simpa [sput] using h0 (by simpa [did] using h), fun h => by simpa [sput] using h1 (by simpa [did] using h), fun h => by simpa [sput] using h2 (by simpa [did] using h), fun h => by simpa [sput] using h3 (by simpa [did] using h), fun h => by simpa [sput] using h4 (by simpa [did] using h), fun h => by simpa [sput] using h5 (by simpa [did] using h), fun h => by simpa [sput] using h6 (by simpa [did] using h), fun h => by simpa [sput] using h7 (by simpa [did] using h), fun h => by simpa [sput] using h8 (by simpa [did] using h), fun h => by simpa [sput] using h9 (by simpa [did] using h), fun h => by simpa [sput] using h10 (by simpa [did] using h), fun h => by simpa [sput] using h11 (by simpa [did] using h), fun h => by simpa [sput] using h12 (by simpa [did] using h), fun h => by simpa [sput] using h13 (by simpa [did] using h), fun h => by simpa [sput] using h14 (by simpa [did] using h), fun h => by simpa [sput] using h15 (by simpa [did] using h), fun _ => by simp [sput], fun h => by simpa [sput] using h17 (by simpa [did] using h), fun h => by simpa [sput] using h18 (by simpa [did] using h), fun h => by simpa [sput] using h19 (by simpa [did] using h), fun h => by simpa [sput] using h20 (by simpa [did] using h), hT⟩
              · have g9 := h9 (by simp [hdep])
                refine stepG_off 9 36 true rfl rfl (by rw [g9]; rfl) ?_
                exact ⟨fun h => by simpa [sput] using h0 (by simpa [did] using h), fun h => by simpa [sput] using h1 (by simpa [did] using h), fun h => by simpa [sput] using h2 (by simpa [did] using h), fun h => by simpa [sput] using h3 (by simpa [did] using h), fun h => by simpa [sput] using h4 (by simpa [did] using h), fun h => by simpa [sput] using h5 (by simpa [did] using h), fun h => by simpa [sput] using h6 (by simpa [did] using h), fun h => by simpa [sput] using h7 (by simpa [did] using h), fun h => by simpa [sput] using h8 (by simpa [did] using h), fun h => by simpa [sput] using h9 (by simpa [did] using h), fun h => by simpa [sput] using h10 (by simpa [did] using h), fun h => by simpa [sput] using h11 (by simpa [did] using h), fun h => by simpa [sput] using h12 (by simpa [did] using h), fun h => by simpa [sput] using h13 (by simpa [did] using h), fun h => by simpa [sput] using h14 (by simpa [did] using h), fun h => by simpa [sput] using h15 (by simpa [did] using h), fun h => by simpa [sput] using h16 (by simpa [did] using h), fun _ => by simp [sput], fun h => by simpa [sput] using h18 (by simpa [did] using h), fun h => by simpa [sput] using h19 (by simpa [did] using h), fun h => by simpa [sput] using h20 (by simpa [did] using h), hT⟩
              · have g9 := h9 (by simp [hdep])
                refine stepG_off 9 36 true rfl rfl (by rw [g9]; rfl) ?_
                exact ⟨fun h => by simpa [sput] using h0 (by simpa [did] using h), fun h => by simpa [sput] using h1 (by simpa [did] using h), fun h => by simpa [sput] using h2 (by simpa [did] using h), fun h => by simpa [sput] using h3 (by simpa [did] using h), fun h => by simpa [sput] using h4 (by simpa [did] using h), fun h => by simpa [sput] using h5 (by simpa [did] using h), fun h => by simpa [sput] using h6 (by simpa [did] using h), fun h => by simpa [sput] using h7 (by simpa [did] using h), fun h => by simpa [sput] using h8 (by simpa [did] using h), fun h => by simpa [sput] using h9 (by simpa [did] using h), fun h => by simpa [sput] using h10 (by simpa [did] using h), fun h => by simpa [sput] using h11 (by simpa [did] using h), fun h => by simpa [sput] using h12 (by simpa [did] using h), fun h => by simpa [sput] using h13 (by simpa [did] using h), fun h => by simpa [sput] using h14 (by simpa [did] using h), fun h => by simpa [sput] using h15 (by simpa [did] using h), fun h => by simpa [sput] using h16 (by simpa [did] using h), fun h => by simpa [sput] using h17 (by simpa [did] using h), fun _ => by simp [sput], fun h => by simpa [sput] using h19 (by simpa [did] using h), fun h => by simpa [sput] using h20 (by simpa [did] using h), hT⟩
              · have g9 := h9 (by simp [hdep])
                have g18 := h18 (by simp [hdep])
                have g6 := h6 (by simp [hdep])
                refine stepG_on 6 33 false rfl rfl g6 ?_
                unfold OpSteps
                simp [go_sem, evS, g9, g18, g6]
                exact ⟨fun h => by simpa [sput] using h0 (by simpa [did] using h), fun h => by simpa [sput] using h1 (by simpa [did] using h), fun h => by simpa [sput] using h2 (by simpa [did] using h), fun h => by simpa [sput] using h3 (by simpa [did] using h), fun h => by simpa [sput] using h4 (by simpa [did] using h), fun h => by simpa [sput] using h5 (by simpa [did] using h), fun h => by simpa [sput] using h6 (by simpa [did] using h), fun h => by simpa [sput] using h7 (by simpa [did] using h), fun h => by simpa [sput] using h8 (by simpa [did] using h), fun h => by simpa [sput] using h9 (by simpa [did] using h), fun h => by simpa [sput] using h10 (by simpa [did] using h), fun h => by simpa [sput] using h11 (by simpa [did] using h), fun h => by simpa [sput] using h12 (by simpa [did] using h), fun h => by simpa [sput] using h13 (by simpa [did] using h), fun h => by simpa [sput] using h14 (by simpa [did] using h), fun h => by simpa [sput] using h15 (by simpa [did] using h), fun h => by simpa [sput] using h16 (by simpa [did] using h), fun h => by simpa [sput] using h17 (by simpa [did] using h), fun h => by simpa [sput] using h18 (by simpa [did] using h), fun _ => by simp [sput], fun h => by simpa [sput] using h20 (by simpa [did] using h), hT⟩
              · have g6 := h6 (by simp [hdep])
                have g19 := h19 (by simp [hdep])
                refine stepG_plain rfl ?_
                unfold OpSteps
                simp [go_sem, evS, g6, g19]
                exact ⟨fun h => by simpa [sput] using h0 (by simpa [did] using h), fun h => by simpa [sput] using h1 (by simpa [did] using h), fun h => by simpa [sput] using h2 (by simpa [did] using h), fun h => by simpa [sput] using h3 (by simpa [did] using h), fun h => by simpa [sput] using h4 (by simpa [did] using h), fun h => by simpa [sput] using h5 (by simpa [did] using h), fun h => by simpa [sput] using h6 (by simpa [did] using h), fun h => by simpa [sput] using h7 (by simpa [did] using h), fun h => by simpa [sput] using h8 (by simpa [did] using h), fun h => by simpa [sput] using h9 (by simpa [did] using h), fun h => by simpa [sput] using h10 (by simpa [did] using h), fun h => by simpa [sput] using h11 (by simpa [did] using h), fun h => by simpa [sput] using h12 (by simpa [did] using h), fun h => by simpa [sput] using h13 (by simpa [did] using h), fun h => by simpa [sput] using h14 (by simpa [did] using h), fun h => by simpa [sput] using h15 (by simpa [did] using h), fun h => by simpa [sput] using h16 (by simpa [did] using h), fun h => by simpa [sput] using h17 (by simpa [did] using h), fun h => by simpa [sput] using h18 (by simpa [did] using h), fun h => by simpa [sput] using h19 (by simpa [did] using h), fun _ => by simp [sput], hT⟩
            intro d s W hJ hd
            obtain ⟨h0, h1, h2, h3, h4, h5, h6, h7, h8, h9, h10, h11, h12, h13, h14, h15, h16, h17, h18, h19, h20, hT⟩ := hJ
            have hs47 := h20 (hd 20 (by decide))
            have HB4 := Lib.hid (below_nx HB2.out hT)
            clear h0 h1 h2 h3 h4 h5 h6 h7 h8 h9 h10 h11 h12 h13 h14 h15 h16 h17 h18 h19 h20 hT hd
            simp [setAll, hs47]
            clear hs47
            generalize s 27 = s27
            generalize s 28 = s28
            generalize s 29 = s29
            generalize s 30 = s30
            generalize s 31 = s31
            generalize s 32 = s32
            generalize s 33 = s33
            generalize s 34 = s34
            generalize s 35 = s35
            generalize s 36 = s36
            generalize s 37 = s37
            generalize s 38 = s38
            generalize s 39 = s39
            generalize s 40 = s40
            generalize s 41 = s41
            generalize s 42 = s42
            generalize s 43 = s43
            generalize s 44 = s44
            generalize s 45 = s45
            generalize s 46 = s46
            generalize W = w9 at *
            go_wp2_with fail
            go_roundw
            case rel => exact ⟨q + 1, by omega, by go_num, HB4⟩
            case measure => simp [intOf]; omega

          · skip
            have hqn : q < n := by have := Hn0.out; omega
            have hqi : (q : Int) < (n : Int) := by omega
            have hq1 : q + 1 ≤ 1048576 := by omega
            obtain ⟨hdr, hdk, hdr64, hdk64⟩ := HD.out q hqn
            obtain ⟨c0, c1, c2, c3, c4⟩ := HM.out.below HBr.out q hqn
            rw [hdr] at c2
            rw [hdk] at c3
            obtain ⟨R2, hR2⟩ : ∃ R2, Rn q = R2 := ⟨_, rfl⟩
            obtain ⟨K2, hK2⟩ : ∃ K2, Kn q = K2 := ⟨_, rfl⟩
            rw [hR2] at c2 hdr64
            rw [hK2] at c3 hdk64
            obtain ⟨A2, hA2⟩ : ∃ A2, (mL L q).A = A2 := ⟨_, rfl⟩
            obtain ⟨n2, hn2⟩ : ∃ n2, (mL L q).l.length = n2 := ⟨_, rfl⟩
            obtain ⟨c2', hc2⟩ : ∃ c2', (mL L q).c = c2' := ⟨_, rfl⟩
            obtain ⟨o2, ho2⟩ : ∃ o2, (mL L q).o = o2 := ⟨_, rfl⟩
            obtain ⟨L2, hL2⟩ : ∃ L2, (mL L q).L = L2 := ⟨_, rfl⟩
            rw [hA2, hn2, hc2] at c0
            rw [ho2] at c1
            rw [hL2] at c4
            have e64 : decide ((64 : Int) < ((max R2 K2 : Nat) : Int)) = false := decide_eq_false (by omega)
            have e64' : decide (64 < max R2 K2) = false := decide_eq_false (by omega)
            have d0 : decide ((0 : Int) < (q : Int)) = true := decide_eq_true (by omega)
            have d0' : decide (0 < q) = true := decide_eq_true (by omega)
            obtain ⟨q1, hqq⟩ : ∃ q1, q1 + 1 = q := ⟨q - 1, by omega⟩
            have hqm : q - 1 = q1 := by omega
            have bq : q1 < n := by omega
            have bqi : (q1 : Int) < (n : Int) := by omega
            obtain ⟨_, k2, _, _⟩ := HD.out q1 bq
            obtain ⟨_, _, _, ck, _⟩ := HM.out.below HBr.out q1 bq
            rw [k2] at ck
            obtain ⟨K1, hK1⟩ : ∃ K1, Kn q1 = K1 := ⟨_, rfl⟩
            rw [hK1] at ck
            have hE : ((K1 : Int) != (R2 : Int)) = false := by
              rw [← hK1, ← hR2]
              have := HCh.out q (by omega) (by omega)
              rw [hqm] at this
              rw [this]; simp
            have hE' : (K1 != R2) = false := by
              rw [← hK1, ← hR2]
              have := HCh.out q (by omega) (by omega)
              rw [hqm] at this
              rw [this]; simp
            clear hK1 k2
            have hqs : (q : Int) - 1 = (q1 : Int) := by omega
            have ws1 : wrap64 ((q : Int) - 1) = (q1 : Int) := by rw [hqs]; exact wrap_id (by unfold I64; omega)
            have ws2 : IntKind.i64.wrap ((q : Int) - 1) = (q1 : Int) := by rw [hqs]; exact wrapi (by omega) (by omega)
            have ck0 := ck
            have HZ0 := Lib.hid (Blk.new wr 25 #[.slice A2 n2 c2', .int .i64 o2, .int .i64 (R2 : Int), .int .i64 (K2 : Int), .int .i64 L2])
            have HB20 := Lib.hid (below_al HBr.out (o := .cells #[.slice A2 n2 c2', .int .i64 o2, .int .i64 (R2 : Int), .int .i64 (K2 : Int), .int .i64 L2] 25))
            have HCk0 := Lib.hid (cell_below ck0 (below_one (o := .cells #[.slice A2 n2 c2', .int .i64 o2, .int .i64 (R2 : Int), .int .i64 (K2 : Int), .int .i64 L2] 25)))
            clear hdr hdk hdr64 hdk64 hR2 hK2 hA2 hn2 hc2 ho2 hL2 ck ck0 hqs hqq hqm
            go_wp2_with fail
            clear c0 c1 c2 c3 c4
            generalize hwz : wr.alloc (.cells #[.slice A2 n2 c2', .int .i64 o2, .int .i64 (R2 : Int), .int .i64 (K2 : Int), .int .i64 L2] 25) = wz at *
            generalize hzb : wr.heap.size = zb at *
            have HZ := HZ0
            have HB2 := HB20
            have HCk := HCk0
            clear hwz hzb HZ0 HB20 HCk0
            refine wp_region_invG [27, 28, 29, 30, 31, 32, 33, 34, 35, 36, 37, 38, 39, 40, 41, 42, 43, 44, 45, 46, 47] (fun d s W => (d 0 = true → s 27 = .pointer (some ⟨zb, 2, none⟩)) ∧ (d 1 = true → s 28 = .int .i64 (R2 : Int)) ∧ (d 2 = true → s 29 = .pointer (some ⟨zb, 3, none⟩)) ∧ (d 3 = true → s 30 = .int .i64 (K2 : Int)) ∧ (d 4 = true → s 31 = .int .i64 ((max R2 K2 : Nat) : Int)) ∧ (d 5 = true → s 32 = .bool false) ∧ (d 6 = true → s 33 = .bool false) ∧ (d 7 = true → s 34 = .int .i64 (q : Int)) ∧ (d 8 = true → s 35 = .bool true) ∧ (d 9 = true → s 36 = .bool true) ∧ (d 10 = true → s 37 = .slice (some ⟨b, o, none⟩) n c) ∧ (d 11 = true → s 38 = .int .i64 (q : Int)) ∧ (d 12 = true → s 39 = .int .i64 (q1 : Int)) ∧ (d 13 = true → s 40 = .pointer (some ⟨b, o + q1 * 5, none⟩)) ∧ (d 14 = true → s 41 = .pointer (some ⟨b, o + q1 * 5 + 3, none⟩)) ∧ (d 15 = true → s 42 = .int .i64 (K1 : Int)) ∧ (d 16 = true → s 43 = .pointer (some ⟨zb, 2, none⟩)) ∧ (d 17 = true → s 44 = .int .i64 (R2 : Int)) ∧ (d 18 = true → s 45 = .bool false) ∧ (d 19 = true → s 46 = .bool false) ∧ (d 20 = true → s 47 = .bool false) ∧ Below wz.heap.size wz W)
              rfl (by kernel_rfl) ?_ ?_ ?_
            · exact ⟨by simp, by simp, by simp, by simp, by simp, by simp, by simp, by simp, by simp, by simp, by simp, by simp, by simp, by simp, by simp, by simp, by simp, by simp, by simp, by simp, by simp, (Below.refl _ _).drew⟩
            · refine ⟨?_, ?_, ?_, ?_, ?_, ?_, ?_, ?_, ?_, ?_, ?_, ?_, ?_, ?_, ?_, ?_, ?_, ?_, ?_, ?_, ?_, trivial⟩
              all_goals
                intro d s W hJ hfr hd hdep
                simp only [List.mem_cons, forall_eq_or_imp, List.not_mem_nil, false_implies, implies_true, and_true, Region.binds] at hdep
                have f0 := hfr 0 (by decide)
                have f5 := hfr 5 (by decide)
                have f6 := hfr 6 (by decide)
                simp at f0 f5 f6 hdep
                obtain ⟨h0, h1, h2, h3, h4, h5, h6, h7, h8, h9, h10, h11, h12, h13, h14, h15, h16, h17, h18, h19, h20, hT⟩ := hJ
              · refine stepG_plain rfl ?_
                unfold OpSteps
                simp [go_sem, evS, f6]
                exact ⟨fun _ => by simp [sput], fun h => by simpa [sput] using h1 (by simpa [did] using h), fun h => by simpa [sput] using h2 (by simpa [did] using h), fun h => by simpa [sput] using h3 (by simpa [did] using h), fun h => by simpa [sput] using h4 (by simpa [did] using h), fun h => by simpa [sput] using h5 (by simpa [did] using h), fun h => by simpa [sput] using h6 (by simpa [did] using h), fun h => by simpa [sput] using h7 (by simpa [did] using h), fun h => by simpa [sput] using h8 (by simpa [did] using h), fun h => by simpa [sput] using h9 (by simpa [did] using h), fun h => by simpa [sput] using h10 (by simpa [did] using h), fun h => by simpa [sput] using h11 (by simpa [did] using h), fun h => by simpa [sput] using h12 (by simpa [did] using h), fun h => by simpa [sput] using h13 (by simpa [did] using h), fun h => by simpa [sput] using h14 (by simpa [did] using h), fun h => by simpa [sput] using h15 (by simpa [did] using h), fun h => by simpa [sput] using h16 (by simpa [did] using h), fun h => by simpa [sput] using h17 (by simpa [did] using h), fun h => by simpa [sput] using h18 (by simpa [did] using h), fun h => by simpa [sput] using h19 (by simpa [did] using h), fun h => by simpa [sput] using h20 (by simpa [did] using h), hT⟩
              · have g0 := h0 (by simp [hdep])
                refine stepG_plain rfl ?_
                unfold OpSteps
                obtain ⟨p0, p1, p2, p3, p4⟩ := cells5 (HZ.out.below hT HZ.out.lt)
                simp [go_sem, evS, g0, p0, p1, p2, p3, p4]
                exact ⟨fun h => by simpa [sput] using h0 (by simpa [did] using h), fun _ => by simp [sput], fun h => by simpa [sput] using h2 (by simpa [did] using h), fun h => by simpa [sput] using h3 (by simpa [did] using h), fun h => by simpa [sput] using h4 (by simpa [did] using h), fun h => by simpa [sput] using h5 (by simpa [did] using h), fun h => by simpa [sput] using h6 (by simpa [did] using h), fun h => by simpa [sput] using h7 (by simpa [did] using h), fun h => by simpa [sput] using h8 (by simpa [did] using h), fun h => by simpa [sput] using h9 (by simpa [did] using h), fun h => by simpa [sput] using h10 (by simpa [did] using h), fun h => by simpa [sput] using h11 (by simpa [did] using h), fun h => by simpa [sput] using h12 (by simpa [did] using h), fun h => by simpa [sput] using h13 (by simpa [did] using h), fun h => by simpa [sput] using h14 (by simpa [did] using h), fun h => by simpa [sput] using h15 (by simpa [did] using h), fun h => by simpa [sput] using h16 (by simpa [did] using h), fun h => by simpa [sput] using h17 (by simpa [did] using h), fun h => by simpa [sput] using h18 (by simpa [did] using h), fun h => by simpa [sput] using h19 (by simpa [did] using h), fun h => by simpa [sput] using h20 (by simpa [did] using h), hT⟩
              · refine stepG_plain rfl ?_
                unfold OpSteps
                simp [go_sem, evS, f6]
                exact ⟨fun h => by simpa [sput] using h0 (by simpa [did] using h), fun h => by simpa [sput] using h1 (by simpa [did] using h), fun _ => by simp [sput], fun h => by simpa [sput] using h3 (by simpa [did] using h), fun h => by simpa [sput] using h4 (by simpa [did] using h), fun h => by simpa [sput] using h5 (by simpa [did] using h), fun h => by simpa [sput] using h6 (by simpa [did] using h), fun h => by simpa [sput] using h7 (by simpa [did] using h), fun h => by simpa [sput] using h8 (by simpa [did] using h), fun h => by simpa [sput] using h9 (by simpa [did] using h), fun h => by simpa [sput] using h10 (by simpa [did] using h), fun h => by simpa [sput] using h11 (by simpa [did] using h), fun h => by simpa [sput] using h12 (by simpa [did] using h), fun h => by simpa [sput] using h13 (by simpa [did] using h), fun h => by simpa [sput] using h14 (by simpa [did] using h), fun h => by simpa [sput] using h15 (by simpa [did] using h), fun h => by simpa [sput] using h16 (by simpa [did] using h), fun h => by simpa [sput] using h17 (by simpa [did] using h), fun h => by simpa [sput] using h18 (by simpa [did] using h), fun h => by simpa [sput] using h19 (by simpa [did] using h), fun h => by simpa [sput] using h20 (by simpa [did] using h), hT⟩
              · have g2 := h2 (by simp [hdep])
                refine stepG_plain rfl ?_
                unfold OpSteps
                obtain ⟨p0, p1, p2, p3, p4⟩ := cells5 (HZ.out.below hT HZ.out.lt)
                simp [go_sem, evS, g2, p0, p1, p2, p3, p4]
                exact ⟨fun h => by simpa [sput] using h0 (by simpa [did] using h), fun h => by simpa [sput] using h1 (by simpa [did] using h), fun h => by simpa [sput] using h2 (by simpa [did] using h), fun _ => by simp [sput], fun h => by simpa [sput] using h4 (by simpa [did] using h), fun h => by simpa [sput] using h5 (by simpa [did] using h), fun h => by simpa [sput] using h6 (by simpa [did] using h), fun h => by simpa [sput] using h7 (by simpa [did] using h), fun h => by simpa [sput] using h8 (by simpa [did] using h), fun h => by simpa [sput] using h9 (by simpa [did] using h), fun h => by simpa [sput] using h10 (by simpa [did] using h), fun h => by simpa [sput] using h11 (by simpa [did] using h), fun h => by simpa [sput] using h12 (by simpa [did] using h), fun h => by simpa [sput] using h13 (by simpa [did] using h), fun h => by simpa [sput] using h14 (by simpa [did] using h), fun h => by simpa [sput] using h15 (by simpa [did] using h), fun h => by simpa [sput] using h16 (by simpa [did] using h), fun h => by simpa [sput] using h17 (by simpa [did] using h), fun h => by simpa [sput] using h18 (by simpa [did] using h), fun h => by simpa [sput] using h19 (by simpa [did] using h), fun h => by simpa [sput] using h20 (by simpa [did] using h), hT⟩
              · have g1 := h1 (by simp [hdep])
                have g3 := h3 (by simp [hdep])
                refine stepG_plain rfl ?_
                unfold OpSteps
                simp [go_sem, evS, g1, g3]
                exact ⟨fun h => by simpa [sput] using h0 (by simpa [did] using h), fun h => by simpa [sput] using h1 (by simpa [did] using h), fun h => by simpa [sput] using h2 (by simpa [did] using h), fun h => by simpa [sput] using h3 (by simpa [did] using h), fun _ => by simp [sput], fun h => by simpa [sput] using h5 (by simpa [did] using h), fun h => by simpa [sput] using h6 (by simpa [did] using h), fun h => by simpa [sput] using h7 (by simpa [did] using h), fun h => by simpa [sput] using h8 (by simpa [did] using h), fun h => by simpa [sput] using h9 (by simpa [did] using h), fun h => by simpa [sput] using h10 (by simpa [did] using h), fun h => by simpa [sput] using h11 (by simpa [did] using h), fun h => by simpa [sput] using h12 (by simpa [did] using h), fun h => by simpa [sput] using h13 (by simpa [did] using h), fun h => by simpa [sput] using h14 (by simpa [did] using h), fun h => by simpa [sput] using h15 (by simpa [did] using h), fun h => by simpa [sput] using h16 (by simpa [did] using h), fun h => by simpa [sput] using h17 (by simpa [did] using h), fun h => by simpa [sput] using h18 (by simpa [did] using h), fun h => by simpa [sput] using h19 (by simpa [did] using h), fun h => by simpa [sput] using h20 (by simpa [did] using h), hT⟩
              · have g4 := h4 (by simp [hdep])
                refine stepG_plain rfl ?_
                unfold OpSteps
                simp [go_sem, evS, g4, e64, e64']
                exact ⟨fun h => by simpa [sput] using h0 (by simpa [did] using h), fun h => by simpa [sput] using h1 (by simpa [did] using h), fun h => by simpa [sput] using h2 (by simpa [did] using h), fun h => by simpa [sput] using h3 (by simpa [did] using h), fun h => by simpa [sput] using h4 (by simpa [did] using h), fun _ => by simp [sput], fun h => by simpa [sput] using h6 (by simpa [did] using h), fun h => by simpa [sput] using h7 (by simpa [did] using h), fun h => by simpa [sput] using h8 (by simpa [did] using h), fun h => by simpa [sput] using h9 (by simpa [did] using h), fun h => by simpa [sput] using h10 (by simpa [did] using h), fun h => by simpa [sput] using h11 (by simpa [did] using h), fun h => by simpa [sput] using h12 (by simpa [did] using h), fun h => by simpa [sput] using h13 (by simpa [did] using h), fun h => by simpa [sput] using h14 (by simpa [did] using h), fun h => by simpa [sput] using h15 (by simpa [did] using h), fun h => by simpa [sput] using h16 (by simpa [did] using h), fun h => by simpa [sput] using h17 (by simpa [did] using h), fun h => by simpa [sput] using h18 (by simpa [did] using h), fun h => by simpa [sput] using h19 (by simpa [did] using h), fun h => by simpa [sput] using h20 (by simpa [did] using h), hT⟩
              · have g5 := h5 (by simp [hdep])
                refine stepG_plain rfl ?_
                unfold OpSteps
                simp [go_sem, evS, g5]
                exact ⟨fun h => by simpa [sput] using h0 (by simpa [did] using h), fun h => by simpa [sput] using h1 (by simpa [did] using h), fun h => by simpa [sput] using h2 (by simpa [did] using h), fun h => by simpa [sput] using h3 (by simpa [did] using h), fun h => by simpa [sput] using h4 (by simpa [did] using h), fun h => by simpa [sput] using h5 (by simpa [did] using h), fun _ => by simp [sput], fun h => by simpa [sput] using h7 (by simpa [did] using h), fun h => by simpa [sput] using h8 (by simpa [did] using h), fun h => by simpa [sput] using h9 (by simpa [did] using h), fun h => by simpa [sput] using h10 (by simpa [did] using h), fun h => by simpa [sput] using h11 (by simpa [did] using h), fun h => by simpa [sput] using h12 (by simpa [did] using h), fun h => by simpa [sput] using h13 (by simpa [did] using h), fun h => by simpa [sput] using h14 (by simpa [did] using h), fun h => by simpa [sput] using h15 (by simpa [did] using h), fun h => by simpa [sput] using h16 (by simpa [did] using h), fun h => by simpa [sput] using h17 (by simpa [did] using h), fun h => by simpa [sput] using h18 (by simpa [did] using h), fun h => by simpa [sput] using h19 (by simpa [did] using h), fun h => by simpa [sput] using h20 (by simpa [did] using h), hT⟩
              · have g6 := h6 (by simp [hdep])
                refine stepG_on 6 33 false rfl rfl g6 ?_
                unfold OpSteps
                simp [go_sem, evS, f5, g6]
                exact ⟨fun h => by simpa [sput] using h0 (by simpa [did] using h), fun h => by simpa [sput] using h1 (by simpa [did] using h), fun h => by simpa [sput] using h2 (by simpa [did] using h), fun h => by simpa [sput] using h3 (by simpa [did] using h), fun h => by simpa [sput] using h4 (by simpa [did] using h), fun h => by simpa [sput] using h5 (by simpa [did] using h), fun h => by simpa [sput] using h6 (by simpa [did] using h), fun _ => by simp [sput], fun h => by simpa [sput] using h8 (by simpa [did] using h), fun h => by simpa [sput] using h9 (by simpa [did] using h), fun h => by simpa [sput] using h10 (by simpa [did] using h), fun h => by simpa [sput] using h11 (by simpa [did] using h), fun h => by simpa [sput] using h12 (by simpa [did] using h), fun h => by simpa [sput] using h13 (by simpa [did] using h), fun h => by simpa [sput] using h14 (by simpa [did] using h), fun h => by simpa [sput] using h15 (by simpa [did] using h), fun h => by simpa [sput] using h16 (by simpa [did] using h), fun h => by simpa [sput] using h17 (by simpa [did] using h), fun h => by simpa [sput] using h18 (by simpa [did] using h), fun h => by simpa [sput] using h19 (by simpa [did] using h), fun h => by simpa [sput] using h20 (by simpa [did] using h), hT⟩
              · have g7 := h7 (by simp [hdep])
                have g6 := h6 (by simp [hdep])
                refine stepG_on 6 33 false rfl rfl g6 ?_
                unfold OpSteps
                simp [go_sem, evS, g7, g6, d0, d0']
                exact ⟨fun h => by simpa [sput] using h0 (by simpa [did] using h), fun h => by simpa [sput] using h1 (by simpa [did] using h), fun h => by simpa [sput] using h2 (by simpa [did] using h), fun h => by simpa [sput] using h3 (by simpa [did] using h), fun h => by simpa [sput] using h4 (by simpa [did] using h), fun h => by simpa [sput] using h5 (by simpa [did] using h), fun h => by simpa [sput] using h6 (by simpa [did] using h), fun h => by simpa [sput] using h7 (by simpa [did] using h), fun _ => by simp [sput], fun h => by simpa [sput] using h9 (by simpa [did] using h), fun h => by simpa [sput] using h10 (by simpa [did] using h), fun h => by simpa [sput] using h11 (by simpa [did] using h), fun h => by simpa [sput] using h12 (by simpa [did] using h), fun h => by simpa [sput] using h13 (by simpa [did] using h), fun h => by simpa [sput] using h14 (by simpa [did] using h), fun h => by simpa [sput] using h15 (by simpa [did] using h), fun h => by simpa [sput] using h16 (by simpa [did] using h), fun h => by simpa [sput] using h17 (by simpa [did] using h), fun h => by simpa [sput] using h18 (by simpa [did] using h), fun h => by simpa [sput] using h19 (by simpa [did] using h), fun h => by simpa [sput] using h20 (by simpa [did] using h), hT⟩
              · have g8 := h8 (by simp [hdep])
                have g6 := h6 (by simp [hdep])
                refine stepG_on 6 33 false rfl rfl g6 ?_
                unfold OpSteps
                simp [go_sem, evS, g8, g6]
                exact ⟨fun h => by simpa [sput] using h0 (by simpa [did] using h), fun h => by simpa [sput] using h1 (by simpa [did] using h), fun h => by simpa [sput] using h2 (by simpa [did] using h), fun h => by simpa [sput] using h3 (by simpa [did] using h), fun h => by simpa [sput] using h4 (by simpa [did] using h), fun h => by simpa [sput] using h5 (by simpa [did] using h), fun h => by simpa [sput] using h6 (by simpa [did] using h), fun h => by simpa [sput] using h7 (by simpa [did] using h), fun h => by simpa [sput] using h8 (by simpa [did] using h), fun _ => by simp [sput], fun h => by simpa [sput] using h10 (by simpa [did] using h), fun h => by simpa [sput] using h11 (by simpa [did] using h), fun h => by simpa [sput] using h12 (by simpa [did] using h), fun h => by simpa [sput] using h13 (by simpa [did] using h), fun h => by simpa [sput] using h14 (by simpa [did] using h), fun h => by simpa [sput] using h15 (by simpa [did] using h), fun h => by simpa [sput] using h16 (by simpa [did] using h), fun h => by simpa [sput] using h17 (by simpa [did] using h), fun h => by simpa [sput] using h18 (by simpa [did] using h), fun h => by simpa [sput] using h19 (by simpa [did] using h), fun h => by simpa [sput] using h20 (by simpa [did] using h), hT⟩
              · have g9 := h9 (by simp [hdep])
                refine stepG_on 9 36 true rfl rfl g9 ?_
                unfold OpSteps
                simp [go_sem, evS, f0, g9]
                exact ⟨fun h => by simpa [sput] using h0 (by simpa [did] using h), fun h => by simpa [sput] using h1 (by simpa [did] using h), fun h => by simpa [sput] using h2 (by simpa [did] using h), fun h => by simpa [sput] using h3 (by simpa [did] using h), fun h => by simpa [sput] using h4 (by simpa [did] using h), fun h => by simpa [sput] using h5 (by simpa [did] using h), fun h => by simpa [sput] using h6 (by simpa [did] using h), fun h => by simpa [sput] using h7 (by simpa [did] using h), fun h => by simpa [sput] using h8 (by simpa [did] using h), fun h => by simpa [sput] using h9 (by simpa [did] using h), fun _ => by simp [sput], fun h => by simpa [sput] using h11 (by simpa [did] using h), fun h => by simpa [sput] using h12 (by simpa [did] using h), fun h => by simpa [sput] using h13 (by simpa [did] using h), fun h => by simpa [sput] using h14 (by simpa [did] using h), fun h => by simpa [sput] using h15 (by simpa [did] using h), fun h => by simpa [sput] using h16 (by simpa [did] using h), fun h => by simpa [sput] using h17 (by simpa [did] using h), fun h => by simpa [sput] using h18 (by simpa [did] using h), fun h => by simpa [sput] using h19 (by simpa [did] using h), fun h => by simpa [sput] using h20 (by simpa [did] using h), hT⟩
              · have g9 := h9 (by simp [hdep])
                refine stepG_on 9 36 true rfl rfl g9 ?_
                unfold OpSteps
                simp [go_sem, evS, f5, g9]
                exact ⟨fun h => by simpa [sput] using h0 (by simpa [did] using h), fun h => by simpa [sput] using h1 (by simpa [did] using h), fun h => by simpa [sput] using h2 (by simpa [did] using h), fun h => by simpa [sput] using h3 (by simpa [did] using h), fun h => by simpa [sput] using h4 (by simpa [did] using h), fun h => by simpa [sput] using h5 (by simpa [did] using h), fun h => by simpa [sput] using h6 (by simpa [did] using h), fun h => by simpa [sput] using h7 (by simpa [did] using h), fun h => by simpa [sput] using h8 (by simpa [did] using h), fun h => by simpa [sput] using h9 (by simpa [did] using h), fun h => by simpa [sput] using h10 (by simpa [did] using h), fun _ => by simp [sput], fun h => by simpa [sput] using h12 (by simpa [did] using h), fun h => by simpa [sput] using h13 (by simpa [did] using h), fun h => by simpa [sput] using h14 (by simpa [did] using h), fun h => by simpa [sput] using h15 (by simpa [did] using h), fun h => by simpa [sput] using h16 (by simpa [did] using h), fun h => by simpa [sput] using h17 (by simpa [did] using h), fun h => by simpa [sput] using h18 (by simpa [did] using h), fun h => by simpa [sput] using h19 (by simpa [did] using h), fun h => by simpa [sput] using h20 (by simpa [did] using h), hT⟩
              · have g11 := h11 (by simp [hdep])
                have g9 := h9 (by simp [hdep])
                refine stepG_on 9 36 true rfl rfl g9 ?_
                unfold OpSteps
                simp [go_sem, evS, g11, g9, ws1, ws2]
                exact ⟨fun h => by simpa [sput] using h0 (by simpa [did] using h), fun h => by simpa [sput] using h1 (by simpa [did] using h), fun h => by simpa [sput] using h2 (by simpa [did] using h), fun h => by simpa [sput] using h3 (by simpa [did] using h), fun h => by simpa [sput] using h4 (by simpa [did] using h), fun h => by simpa [sput] using h5 (by simpa [did] using h), fun h => by simpa [sput] using h6 (by simpa [did] using h), fun h => by simpa [sput] using h7 (by simpa [did] using h), fun h => by simpa [sput] using h8 (by simpa [did] using h), fun h => by simpa [sput] using h9 (by simpa [did] using h), fun h => by simpa [sput] using h10 (by simpa [did] using h), fun h => by simpa [sput] using h11 (by simpa [did] using h), fun _ => by simp [sput], fun h => by simpa [sput] using h13 (by simpa [did] using h), fun h => by simpa [sput] using h14 (by simpa [did] using h), fun h => by simpa [sput] using h15 (by simpa [did] using h), fun h => by simpa [sput] using h16 (by simpa [did] using h), fun h => by simpa [sput] using h17 (by simpa [did] using h), fun h => by simpa [sput] using h18 (by simpa [did] using h), fun h => by simpa [sput] using h19 (by simpa [did] using h), fun h => by simpa [sput] using h20 (by simpa [did] using h), hT⟩
              · have g10 := h10 (by simp [hdep])
                have g12 := h12 (by simp [hdep])
                have g9 := h9 (by simp [hdep])
                refine stepG_on 9 36 true rfl rfl g9 ?_
                unfold OpSteps
                simp [go_sem, evS, g10, g12, g9, bq, bqi]
                exact ⟨fun h => by simpa [sput] using h0 (by simpa [did] using h), fun h => by simpa [sput] using h1 (by simpa [did] using h), fun h => by simpa [sput] using h2 (by simpa [did] using h), fun h => by simpa [sput] using h3 (by simpa [did] using h), fun h => by simpa [sput] using h4 (by simpa [did] using h), fun h => by simpa [sput] using h5 (by simpa [did] using h), fun h => by simpa [sput] using h6 (by simpa [did] using h), fun h => by simpa [sput] using h7 (by simpa [did] using h), fun h => by simpa [sput] using h8 (by simpa [did] using h), fun h => by simpa [sput] using h9 (by simpa [did] using h), fun h => by simpa [sput] using h10 (by simpa [did] using h), fun h => by simpa [sput] using h11 (by simpa [did] using h), fun h => by simpa [sput] using h12 (by simpa [did] using h), fun _ => by simp [sput], fun h => by simpa [sput] using h14 (by simpa [did] using h), fun h => by simpa [sput] using h15 (by simpa [did] using h), fun h => by simpa [sput] using h16 (by simpa [did] using h), fun h => by simpa [sput] using h17 (by simpa [did] using h), fun h => by simpa [sput] using h18 (by simpa [did] using h), fun h => by simpa [sput] using h19 (by simpa [did] using h), fun h => by simpa [sput] using h20 (by simpa [did] using h), hT⟩
              · have g13 := h13 (by simp [hdep])
                have g9 := h9 (by simp [hdep])
                refine stepG_on 9 36 true rfl rfl g9 ?_
                unfold OpSteps
                simp [go_sem, evS, g13, g9]
                exact ⟨fun h => by simpa [sput] using h0 (by simpa [did] using h), fun h => by simpa [sput] using h1 (by simpa [did] using h), fun h => by simpa [sput] using h2 (by simpa [did] using h), fun h => by simpa [sput] using h3 (by simpa [did] using h), fun h => by simpa [sput] using h4 (by simpa [did] using h), fun h => by simpa [sput] using h5 (by simpa [did] using h), fun h => by simpa [sput] using h6 (by simpa [did] using h), fun h => by simpa [sput] using h7 (by simpa [did] using h), fun h => by simpa [sput] using h8 (by simpa [did] using h), fun h => by simpa [sput] using h9 (by simpa [did] using h), fun h => by simpa [sput] using h10 (by simpa [did] using h), fun h => by simpa [sput] using h11 (by simpa [did] using h), fun h => by simpa [sput] using h12 (by simpa [did] using h), fun h => by simpa [sput] using h13 (by simpa [did] using h), fun _ => by simp [sput], fun h => by simpa [sput] using h15 (by simpa [did] using h), fun h => by simpa [sput] using h16 (by simpa [did] using h), fun h => by simpa [sput] using h17 (by simpa [did] using h), fun h => by simpa [sput] using h18 (by simpa [did] using h), fun h => by simpa [sput] using h19 (by simpa [did] using h), fun h => by simpa [sput] using h20 (by simpa [did] using h), hT⟩
              · have g14 := h14 (by simp [hdep])
                have g9 := h9 (by simp [hdep])
                refine stepG_on 9 36 true rfl rfl g9 ?_
                unfold OpSteps
                have pc := cell_below HCk.out hT
                simp [go_sem, evS, g14, g9, pc]
                exact ⟨fun h => by simpa [sput] using h0 (by simpa [did] using h), fun h => by simpa [sput] using h1 (by simpa [did] using h), fun h => by simpa [sput] using h2 (by simpa [did] using h), fun h => by simpa [sput] using h3 (by simpa [did] using h), fun h => by simpa [sput] using h4 (by simpa [did] using h), fun h => by simpa [sput] using h5 (by simpa [did] using h), fun h => by simpa [sput] using h6 (by simpa [did] using h), fun h => by simpa [sput] using h7 (by simpa [did] using h), fun h => by simpa [sput] using h8 (by simpa [did] using h), fun h => by simpa [sput] using h9 (by simpa [did] using h), fun h => by simpa [sput] using h10 (by simpa [did] using h), fun h => by simpa [sput] using h11 (by simpa [did] using h), fun h => by simpa [sput] using h12 (by simpa [did] using h), fun h => by simpa [sput] using h13 (by simpa [did] using h), fun h => by simpa [sput] using h14 (by simpa [did] using h), fun _ => by simp [sput], fun h => by simpa [sput] using h16 (by simpa [did] using h), fun h => by simpa [sput] using h17 (by simpa [did] using h), fun h => by simpa [sput] using h18 (by simpa [did] using h), fun h => by simpa [sput] using h19 (by simpa [did] using h), fun h => by simpa [sput] using h20 (by simpa [did] using h), hT⟩
              · have g9 := h9 (by simp [hdep])
                refine stepG_on 9 36 true rfl rfl g9 ?_
                unfold OpSteps
                simp [go_sem, evS, f6, g9]
                exact ⟨fun h => by simpa [sput] using h0 (by simpa [did] using h), fun h => by simpa [sput] using h1 (by simpa [did] using h), fun h => by simpa [sput] using h2 (by simpa [did] using h), fun h => by simpa [sput] using h3 (by simpa [did] using h), fun h => by simpa [sput] using h4 (by simpa [did] using h), fun h => by simpa [sput] using h5 (by simpa [did] using h), fun h => by simpa [sput] using h6 (by simpa [did] using h), fun h => by simpa [sput] using h7 (by simpa [did] using h), fun h => by simpa [sput] using h8 (by simpa [did] using h), fun h => by simpa [sput] using h9 (by simpa [did] using h), fun h => by simpa [sput] using h10 (by simpa [did] using h), fun h => by simpa [sput] using h11 (by simpa [did] using h), fun h => by simpa [sput] using h12 (by simpa [did] using h), fun h => by simpa [sput] using h13 (by simpa [did] using h), fun h => by simpa [sput] using h14 (by simpa [did] using h), fun h => by simpa [sput] using h15 (by simpa [did] using h), fun _ => by simp [sput], fun h => by simpa [sput] using h17 (by simpa [did] using h), fun h => by simpa [sput] using h18 (by simpa [did] using h), fun h => by simpa [sput] using h19 (by simpa [did] using h), fun h => by simpa [sput] using h20 (by simpa [did] using h), hT⟩
              · have g16 := h16 (by simp [hdep])
                have g9 := h9 (by simp [hdep])
                refine stepG_on 9 36 true rfl rfl g9 ?_
                unfold OpSteps
                obtain ⟨p0, p1, p2, p3, p4⟩ := cells5 (HZ.out.below hT HZ.out.lt)
                simp [go_sem, evS, g16, g9, p0, p1, p2, p3, p4]
                exact ⟨fun h => by simpa [sput] using h0 (by simpa [did] using h), fun h => by simpa [sput] using h1 (by simpa [did] using h), fun h => by simpa [sput] using h2 (by simpa [did] using h), fun h => by simpa [sput] using h3 (by simpa [did] using h), fun h => by simpa [sput] using h4 (by simpa [did] using h), fun h => by simpa [sput] using h5 (by simpa [did] using h), fun h => by simpa [sput] using h6 (by simpa [did] using h), fun h => by simpa [sput] using h7 (by simpa [did] using h), fun h => by simpa [sput] using h8 (by simpa [did] using h), fun h => by simpa [sput] using h9 (by simpa [did] using h), fun h => by simpa [sput] using h10 (by simpa [did] using h), fun h => by simpa [sput] using h11 (by simpa [did] using h), fun h => by simpa [sput] using h12 (by simpa [did] using h), fun h => by simpa [sput] using h13 (by simpa [did] using h), fun h => by simpa [sput] using h14 (by simpa [did] using h), fun h => by simpa [sput] using h15 (by simpa [did] using h), fun h => by simpa [sput] using h16 (by simpa [did] using h), fun _ => by simp [sput], fun h => by simpa [sput] using h18 (by simpa [did] using h), fun h => by simpa [sput] using h19 (by simpa [did] using h), fun h => by simpa [sput] using h20 (by simpa [did] using h), hT⟩
              · have g15 := h15 (by simp [hdep])
                have g17 := h17 (by simp [hdep])
                have g9 := h9 (by simp [hdep])
                refine stepG_on 9 36 true rfl rfl g9 ?_
                unfold OpSteps
                simp [go_sem, evS, g15, g17, g9, hE, hE']
                exact ⟨fun h => by simpa [sput] using h0 (by simpa [did] using h), fun h => by simpa [sput] using h1 (by simpa [did] using h), fun h => by simpa [sput] using h2 (by simpa [did] using h), fun h => by simpa [sput] using h3 (by simpa [did] using h), fun h => by simpa [sput] using h4 (by simpa [did] using h), fun h => by simpa [sput] using h5 (by simpa [did] using h), fun h => by simpa [sput] using h6 (by simpa [did] using h), fun h => by simpa [sput] using h7 (by simpa [did] using h), fun h => by simpa [sput] using h8 (by simpa [did] using h), fun h => by simpa [sput] using h9 (by simpa [did] using h), fun h => by simpa [sput] using h10 (by simpa [did] using h), fun h => by simpa [sput] using h11 (by simpa [did] using h), fun h => by simpa [sput] using h12 (by simpa [did] using h), fun h => by simpa [sput] using h13 (by simpa [did] using h), fun h => by simpa [sput] using h14 (by simpa [did] using h), fun h => by simpa [sput] using h15 (by simpa [did] using h), fun h => by simpa [sput] using h16 (by simpa [did] using h), fun h => by simpa [sput] using h17 (by simpa [did] using h), fun _ => by simp [sput], fun h => by simpa [sput] using h19 (by simpa [did] using h), fun h => by simpa [sput] using h20 (by simpa [did] using h), hT⟩
              · have g9 := h9 (by simp [hdep])
                have g18 := h18 (by simp [hdep])
                have g6 := h6 (by simp [hdep])
                refine stepG_on 6 33 false rfl rfl g6 ?_
                unfold OpSteps
                simp [go_sem, evS, g9, g18, g6]
                exact ⟨fun h => by simpa [sput] using h0 (by simpa [did] using h), fun h => by simpa [sput] using h1 (by simpa [did] using h), fun h => by simpa [sput] using h2 (by simpa [did] using h), fun h => by simpa [sput] using h3 (by simpa [did] using h), fun h => by simpa [sput] using h4 (by simpa [did] using h), fun h => by simpa [sput] using h5 (by simpa [did] using h), fun h => by simpa [sput] using h6 (by simpa [did] using h), fun h => by simpa [sput] using h7 (by simpa [did] using h), fun h => by simpa [sput] using h8 (by simpa [did] using h), fun h => by simpa [sput] using h9 (by simpa [did] using h), fun h => by simpa [sput] using h10 (by simpa [did] using h), fun h => by simpa [sput] using h11 (by simpa [did] using h), fun h => by simpa [sput] using h12 (by simpa [did] using h), fun h => by simpa [sput] using h13 (by simpa [did] using h), fun h => by simpa [sput] using h14 (by simpa [did] using h), fun h => by simpa [sput] using h15 (by simpa [did] using h), fun h => by simpa [sput] using h16 (by simpa [did] using h), fun h => by simpa [sput] using h17 (by simpa [did] using h), fun h => by simpa [sput] using h18 (by simpa [did] using h), fun _ => by simp [sput], fun h => by simpa [sput] using h20 (by simpa [did] using h), hT⟩
              · have g6 := h6 (by simp [hdep])
                have g19 := h19 (by simp [hdep])
                refine stepG_plain rfl ?_
                unfold OpSteps
                simp [go_sem, evS, g6, g19]
                exact ⟨fun h => by simpa [sput] using h0 (by simpa [did] using h), fun h => by simpa [sput] using h1 (by simpa [did] using h), fun h => by simpa [sput] using h2 (by simpa [did] using h), fun h => by simpa [sput] using h3 (by simpa [did] using h), fun h => by simpa [sput] using h4 (by simpa [did] using h), fun h => by simpa [sput] using h5 (by simpa [did] using h), fun h => by simpa [sput] using h6 (by simpa [did] using h), fun h => by simpa [sput] using h7 (by simpa [did] using h), fun h => by simpa [sput] using h8 (by simpa [did] using h), fun h => by simpa [sput] using h9 (by simpa [did] using h), fun h => by simpa [sput] using h10 (by simpa [did] using h), fun h => by simpa [sput] using h11 (by simpa [did] using h), fun h => by simpa [sput] using h12 (by simpa [did] using h), fun h => by simpa [sput] using h13 (by simpa [did] using h), fun h => by simpa [sput] using h14 (by simpa [did] using h), fun h => by simpa [sput] using h15 (by simpa [did] using h), fun h => by simpa [sput] using h16 (by simpa [did] using h), fun h => by simpa [sput] using h17 (by simpa [did] using h), fun h => by simpa [sput] using h18 (by simpa [did] using h), fun h => by simpa [sput] using h19 (by simpa [did] using h), fun _ => by simp [sput], hT⟩
            intro d s W hJ hd
            obtain ⟨h0, h1, h2, h3, h4, h5, h6, h7, h8, h9, h10, h11, h12, h13, h14, h15, h16, h17, h18, h19, h20, hT⟩ := hJ
            have hs47 := h20 (hd 20 (by decide))
            have HB4 := Lib.hid (below_nx HB2.out hT)
            clear h0 h1 h2 h3 h4 h5 h6 h7 h8 h9 h10 h11 h12 h13 h14 h15 h16 h17 h18 h19 h20 hT hd
            simp [setAll, hs47]
            clear hs47
            generalize s 27 = s27
            generalize s 28 = s28
            generalize s 29 = s29
            generalize s 30 = s30
            generalize s 31 = s31
            generalize s 32 = s32
            generalize s 33 = s33
            generalize s 34 = s34
            generalize s 35 = s35
            generalize s 36 = s36
            generalize s 37 = s37
            generalize s 38 = s38
            generalize s 39 = s39
            generalize s 40 = s40
            generalize s 41 = s41
            generalize s 42 = s42
            generalize s 43 = s43
            generalize s 44 = s44
            generalize s 45 = s45
            generalize s 46 = s46
            generalize W = w9 at *
            go_wp2_with fail
            go_roundw
            case rel => exact ⟨q + 1, by omega, by go_num, HB4⟩
            case measure => simp [intOf]; omega

        · obtain rfl : n = q := by omega
          have hqc : ¬ (n : Int) < (n : Int) := by omega
          go_wp2_with fail
          go_ret
          exact ⟨rfl, HBr.out⟩

set_option maxRecDepth 100000 in
set_option maxHeartbeats 2000000 in
theorem gefollow_size (b o n c : Nat) (L : List M5) (w : World) (hM : MlC w b o n L) (hL : L.length = n) (hn : n < 1048576) (hn0 : 0 < n) (hOk : ∀ i, i < n → (mL L i).Ok w) (Rn Kn : Nat → Nat) (hg : ∀ i, i < n → goodM (mL L i) = true) (hD : ∀ i, i < n → (mL L i).r = (Rn i : Int) ∧ (mL L i).k = (Kn i : Int) ∧ Rn i ≤ 64 ∧ Kn i ≤ 64) (p : Nat) (hp1 : 1 ≤ p) (hp : p < n) (hch : ∀ i, 1 ≤ i → i < p → Kn (i - 1) = Rn i) (hno : ¬ Kn (p - 1) = Rn p) :
    Calls Try.prog 36 #[.slice (some ⟨b, o, none⟩) n c] w fun e w' => e = .returned (.int .i64 3) ∧ Below w.heap.size w w' := by
  have HM := Lib.hid hM
  have HGd := Lib.hid (fun i (h : i < n) W => mgood_any (hOk i h) W)
  have t0 : ((n : Int) == 0) = false := by simp; omega
  have t0' : (n == 0) = false := by simp; omega
  have HGt := Lib.hid hg
  have HD := Lib.hid hD
  have HCh := Lib.hid hch
  have Hn0 := Lib.hid hn0
  have Hpn := Lib.hid (And.intro hp1 hp)
  have HNo := Lib.hid hno
  clear hM hL hn0 hOk hg hD hch hno hp1 hp
  go_enter Try.func36, Try.ntmps36
  go_wp2_with fail
  go_loopw [12] (fun a wr => ∃ q : Nat, q ≤ n ∧ a = .int .i64 q ∧ Hid (Below w.heap.size w wr)) (fun a _ => n + 1 - (intOf a).toNat)
  case atStart => exact ⟨0, Nat.zero_le _, rfl, Lib.hid (Below.refl _ _)⟩
  case round =>
    obtain ⟨q, hq, rfl, HBr⟩ := hrel
    by_cases hlt : q < n
    · skip
      have hqn : q < n := by have := hlt; omega
      have hqi : (q : Int) < (n : Int) := by omega
      have hq1 : q + 1 ≤ 1048576 := by omega
      have HGq := Lib.hid (fun W => HGd.out q hqn W)
      rw [HGt.out q (by omega)] at HGq
      obtain ⟨c0, c1, c2, c3, c4⟩ := HM.out.below HBr.out q hqn
      have HZ := Lib.hid (Blk.new wr 25 #[.slice (mL L q).A (mL L q).l.length (mL L q).c, .int .i64 (mL L q).o, .int .i64 (mL L q).r, .int .i64 (mL L q).k, .int .i64 (mL L q).L])
      have HB2 := Lib.hid (below_al HBr.out (o := .cells #[.slice (mL L q).A (mL L q).l.length (mL L q).c, .int .i64 (mL L q).o, .int .i64 (mL L q).r, .int .i64 (mL L q).k, .int .i64 (mL L q).L] 25))
      go_wp2_with fail
      clear c0 c1 c2 c3 c4
      refine (HGq.out _).mono ?_
      rintro e w2 ⟨rfl, hb⟩
      have HB3 := Lib.hid (below_nx HB2.out hb)
      clear hb
      go_wp2_with fail
      go_roundw
      case rel => exact ⟨q + 1, by omega, by go_num, HB3⟩
      case measure => simp [intOf]; omega
    · obtain rfl : n = q := by omega
      have hqc : ¬ (n : Int) < (n : Int) := by omega
      go_wp2_with fail
      go_loopw [22] (fun a wr => ∃ q : Nat, q ≤ p ∧ a = .int .i64 q ∧ Hid (Below w.heap.size w wr)) (fun a _ => p + 1 - (intOf a).toNat)
      case atStart => exact ⟨0, Nat.zero_le _, rfl, HBr⟩
      case round =>
        clear HBr
        obtain ⟨q, hq, rfl, HBr⟩ := hrel
        by_cases hlt : q < p
        · by_cases hz : q = 0
          · skip
            have hqn : q < n := by have := Hn0.out; omega
            have hqi : (q : Int) < (n : Int) := by omega
            have hq1 : q + 1 ≤ 1048576 := by omega
            obtain ⟨hdr, hdk, hdr64, hdk64⟩ := HD.out q hqn
            obtain ⟨c0, c1, c2, c3, c4⟩ := HM.out.below HBr.out q hqn
            rw [hdr] at c2
            rw [hdk] at c3
            obtain ⟨R2, hR2⟩ : ∃ R2, Rn q = R2 := ⟨_, rfl⟩
            obtain ⟨K2, hK2⟩ : ∃ K2, Kn q = K2 := ⟨_, rfl⟩
            rw [hR2] at c2 hdr64
            rw [hK2] at c3 hdk64
            obtain ⟨A2, hA2⟩ : ∃ A2, (mL L q).A = A2 := ⟨_, rfl⟩
            obtain ⟨n2, hn2⟩ : ∃ n2, (mL L q).l.length = n2 := ⟨_, rfl⟩
            obtain ⟨c2', hc2⟩ : ∃ c2', (mL L q).c = c2' := ⟨_, rfl⟩
            obtain ⟨o2, ho2⟩ : ∃ o2, (mL L q).o = o2 := ⟨_, rfl⟩
            obtain ⟨L2, hL2⟩ : ∃ L2, (mL L q).L = L2 := ⟨_, rfl⟩
            rw [hA2, hn2, hc2] at c0
            rw [ho2] at c1
            rw [hL2] at c4
            have e64 : decide ((64 : Int) < ((max R2 K2 : Nat) : Int)) = false := decide_eq_false (by omega)
            have e64' : decide (64 < max R2 K2) = false := decide_eq_false (by omega)
            have d0 : decide ((0 : Int) < (q : Int)) = false := decide_eq_false (by omega)
            have d0' : decide (0 < q) = false := decide_eq_false (by omega)
            have HZ0 := Lib.hid (Blk.new wr 25 #[.slice A2 n2 c2', .int .i64 o2, .int .i64 (R2 : Int), .int .i64 (K2 : Int), .int .i64 L2])
            have HB20 := Lib.hid (below_al HBr.out (o := .cells #[.slice A2 n2 c2', .int .i64 o2, .int .i64 (R2 : Int), .int .i64 (K2 : Int), .int .i64 L2] 25))
            clear hdr hdk hdr64 hdk64 hR2 hK2 hA2 hn2 hc2 ho2 hL2 hz
            go_wp2_with fail
            clear c0 c1 c2 c3 c4
            generalize hwz : wr.alloc (.cells #[.slice A2 n2 c2', .int .i64 o2, .int .i64 (R2 : Int), .int .i64 (K2 : Int), .int .i64 L2] 25) = wz at *
            generalize hzb : wr.heap.size = zb at *
            have HZ := HZ0
            have HB2 := HB20
            clear hwz hzb HZ0 HB20
            refine wp_region_invG [27, 28, 29, 30, 31, 32, 33, 34, 35, 36, 37, 38, 39, 40, 41, 42, 43, 44, 45, 46, 47] (fun d s W => (d 0 = true → s 27 = .pointer (some ⟨zb, 2, none⟩)) ∧ (d 1 = true → s 28 = .int .i64 (R2 : Int)) ∧ (d 2 = true → s 29 = .pointer (some ⟨zb, 3, none⟩)) ∧ (d 3 = true → s 30 = .int .i64 (K2 : Int)) ∧ (d 4 = true → s 31 = .int .i64 ((max R2 K2 : Nat) : Int)) ∧ (d 5 = true → s 32 = .bool false) ∧ (d 6 = true → s 33 = .bool false) ∧ (d 7 = true → s 34 = .int .i64 (q : Int)) ∧ (d 8 = true → s 35 = .bool false) ∧ (d 9 = true → s 36 = .bool false) ∧ (d 10 = true → s 37 = undef) ∧ (d 11 = true → s 38 = undef) ∧ (d 12 = true → s 39 = undef) ∧ (d 13 = true → s 40 = undef) ∧ (d 14 = true → s 41 = undef) ∧ (d 15 = true → s 42 = undef) ∧ (d 16 = true → s 43 = undef) ∧ (d 17 = true → s 44 = undef) ∧ (d 18 = true → s 45 = undef) ∧ (d 19 = true → s 46 = .bool false) ∧ (d 20 = true → s 47 = .bool false) ∧ Below wz.heap.size wz W)
              rfl (by kernel_rfl) ?_ ?_ ?_
            · exact ⟨by simp, by simp, by simp, by simp, by simp, by simp, by simp, by simp, by simp, by simp, by simp, by simp, by simp, by simp, by simp, by simp, by simp, by simp, by simp, by simp, by simp, (Below.refl _ _).drew⟩
            · refine ⟨?_, ?_, ?_, ?_, ?_, ?_, ?_, ?_, ?_, ?_, ?_, ?_, ?_, ?_, ?_, ?_, ?_, ?_, ?_, ?_, ?_, trivial⟩
              all_goals
                intro d s W hJ hfr hd hdep
                simp only [List.mem_cons, forall_eq_or_imp, List.not_mem_nil, false_implies, implies_true, and_true, Region.binds] at hdep
                have f0 := hfr 0 (by decide)
                have f5 := hfr 5 (by decide)
                have f6 := hfr 6 (by decide)
                simp at f0 f5 f6 hdep
                obtain ⟨h0, h1, h2, h3, h4, h5, h6, h7, h8, h9, h10, h11, h12, h13, h14, h15, h16, h17, h18, h19, h20, hT⟩ := hJ
              · refine stepG_plain rfl ?_
                unfold OpSteps
                simp [go_sem, evS, f6]
                exact ⟨fun _ => by simp [sput], fun h => by simpa [sput] using h1 (by simpa [did] using h), fun h => by simpa [sput] using h2 (by simpa [did] using h), fun h => by simpa [sput] using h3 (by simpa [did] using h), fun h => by simpa [sput] using h4 (by simpa [did] using h), fun h => by simpa [sput] using h5 (by simpa [did] using h), fun h => by simpa [sput] using h6 (by simpa [did] using h), fun h => by simpa [sput] using h7 (by simpa [did] using h), fun h => by simpa [sput] using h8 (by simpa [did] using h), fun h => by simpa [sput] using h9 (by simpa [did] using h), fun h => by simpa [sput] using h10 (by simpa [did] using h), fun h => by simpa [sput] using h11 (by simpa [did] using h), fun h => by simpa [sput] using h12 (by simpa [did] using h), fun h => by simpa [sput] using h13 (by simpa [did] using h), fun h => by simpa [sput] using h14 (by simpa [did] using h), fun h => by simpa [sput] using h15 (by simpa [did] using h), fun h => by simpa [sput] using h16 (by simpa [did] using h), fun h => by simpa [sput] using h17 (by simpa [did] using h), fun h => by simpa [sput] using h18 (by simpa [did] using h), fun h => by simpa [sput] using h19 (by simpa [did] using h), fun h => by simpa [sput] using h20 (by simpa [did] using h), hT⟩
              · have g0 := h0 (by simp [hdep])
                refine stepG_plain rfl ?_
                unfold OpSteps
                obtain ⟨p0, p1, p2, p3, p4⟩ := cells5 (HZ.out.below hT HZ.out.lt)
                simp [go_sem, evS, g0, p0, p1, p2, p3, p4]
                exact ⟨fun h => by simpa [sput] using h0 (by simpa [did] using h), fun _ => by simp [sput], fun h => by simpa [sput] using h2 (by simpa [did] using h), fun h => by simpa [sput] using h3 (by simpa [did] using h), fun h => by simpa [sput] using h4 (by simpa [did] using h), fun h => by simpa [sput] using h5 (by simpa [did] using h), fun h => by simpa [sput] using h6 (by simpa [did] using h), fun h => by simpa [sput] using h7 (by simpa [did] using h), fun h => by simpa [sput] using h8 (by simpa [did] using h), fun h => by simpa [sput] using h9 (by simpa [did] using h), fun h => by simpa [sput] using h10 (by simpa [did] using h), fun h => by simpa [sput] using h11 (by simpa [did] using h), fun h => by simpa [sput] using h12 (by simpa [did] using h), fun h => by simpa [sput] using h13 (by simpa [did] using h), fun h => by simpa [sput] using h14 (by simpa [did] using h), fun h => by simpa [sput] using h15 (by simpa [did] using h), fun h => by simpa [sput] using h16 (by simpa [did] using h), fun h => by simpa [sput] using h17 (by simpa [did] using h), fun h => by simpa [sput] using h18 (by simpa [did] using h), fun h => by simpa [sput] using h19 (by simpa [did] using h), fun h => by simpa [sput] using h20 (by simpa [did] using h), hT⟩
              · refine stepG_plain rfl ?_
                unfold OpSteps
                simp [go_sem, evS, f6]
                exact ⟨fun h => by simpa [sput] using h0 (by simpa [did] using h), fun h => by simpa [sput] using h1 (by simpa [did] using h), fun _ => by simp [sput], fun h => by simpa [sput] using h3 (by simpa [did] using h), fun h => by simpa [sput] using h4 (by simpa [did] using h), fun h => by simpa [sput] using h5 (by simpa [did] using h), fun h => by simpa [sput] using h6 (by simpa [did] using h), fun h => by simpa [sput] using h7 (by simpa [did] using h), fun h => by simpa [sput] using h8 (by simpa [did] using h), fun h => by simpa [sput] using h9 (by simpa [did] using h), fun h => by simpa [sput] using h10 (by simpa [did] using h), fun h => by simpa [sput] using h11 (by simpa [did] using h), fun h => by simpa [sput] using h12 (by simpa [did] using h), fun h => by simpa [sput] using h13 (by simpa [did] using h), fun h => by simpa [sput] using h14 (by simpa [did] using h), fun h => by simpa [sput] using h15 (by simpa [did] using h), fun h => by simpa [sput] using h16 (by simpa [did] using h), fun h => by simpa [sput] using h17 (by simpa [did] using h), fun h => by simpa [sput] using h18 (by simpa [did] using h), fun h => by simpa [sput] using h19 (by simpa [did] using h), fun h => by simpa [sput] using h20 (by simpa [did] using h), hT⟩
              · have g2 := h2 (by simp [hdep])
                refine stepG_plain rfl ?_
                unfold OpSteps
                obtain ⟨p0, p1, p2, p3, p4⟩ := cells5 (HZ.out.below hT HZ.out.lt)
                simp [go_sem, evS, g2, p0, p1, p2, p3, p4]
                exact ⟨fun h => by simpa [sput] using h0 (by simpa [did] using h), fun h => by simpa [sput] using h1 (by simpa [did] using h), fun h => by simpa [sput] using h2 (by simpa [did] using h), fun _ => by simp [sput], fun h => by simpa [sput] using h4 (by simpa [did] using h), fun h => by simpa [sput] using h5 (by simpa [did] using h), fun h => by simpa [sput] using h6 (by simpa [did] using h), fun h => by simpa [sput] using h7 (by simpa [did] using h), fun h => by simpa [sput] using h8 (by simpa [did] using h), fun h => by simpa [sput] using h9 (by simpa [did] using h), fun h => by simpa [sput] using h10 (by simpa [did] using h), fun h => by simpa [sput] using h11 (by simpa [did] using h), fun h => by simpa [sput] using h12 (by simpa [did] using h), fun h => by simpa [sput] using h13 (by simpa [did] using h), fun h => by simpa [sput] using h14 (by simpa [did] using h), fun h => by simpa [sput] using h15 (by simpa [did] using h), fun h => by simpa [sput] using h16 (by simpa [did] using h), fun h => by simpa [sput] using h17 (by simpa [did] using h), fun h => by simpa [sput] using h18 (by simpa [did] using h), fun h => by simpa [sput] using h19 (by simpa [did] using h), fun h => by simpa [sput] using h20 (by simpa [did] using h), hT⟩
              · have g1 := h1 (by simp [hdep])
                have g3 := h3 (by simp [hdep])
                refine stepG_plain rfl ?_
                unfold OpSteps
                simp [go_sem, evS, g1, g3]
                exact ⟨fun h => by simpa [sput] using h0 (by simpa [did] using h), fun h => by simpa [sput] using h1 (by simpa [did] using h), fun h => by simpa [sput] using h2 (by simpa [did] using h), fun h => by simpa [sput] using h3 (by simpa [did] using h), fun _ => by simp [sput], fun h => by simpa [sput] using h5 (by simpa [did] using h), fun h => by simpa [sput] using h6 (by simpa [did] using h), fun h => by simpa [sput] using h7 (by simpa [did] using h), fun h => by simpa [sput] using h8 (by simpa [did] using h), fun h => by simpa [sput] using h9 (by simpa [did] using h), fun h => by simpa [sput] using h10 (by simpa [did] using h), fun h => by simpa [sput] using h11 (by simpa [did] using h), fun h => by simpa [sput] using h12 (by simpa [did] using h), fun h => by simpa [sput] using h13 (by simpa [did] using h), fun h => by simpa [sput] using h14 (by simpa [did] using h), fun h => by simpa [sput] using h15 (by simpa [did] using h), fun h => by simpa [sput] using h16 (by simpa [did] using h), fun h => by simpa [sput] using h17 (by simpa [did] using h), fun h => by simpa [sput] using h18 (by simpa [did] using h), fun h => by simpa [sput] using h19 (by simpa [did] using h), fun h => by simpa [sput] using h20 (by simpa [did] using h), hT⟩
              · have g4 := h4 (by simp [hdep])
                refine stepG_plain rfl ?_
                unfold OpSteps
                simp [go_sem, evS, g4, e64, e64']
                exact ⟨fun h => by simpa [sput] using h0 (by simpa [did] using h), fun h => by simpa [sput] using h1 (by simpa [did] using h), fun h => by simpa [sput] using h2 (by simpa [did] using h), fun h => by simpa [sput] using h3 (by simpa [did] using h), fun h => by simpa [sput] using h4 (by simpa [did] using h), fun _ => by simp [sput], fun h => by simpa [sput] using h6 (by simpa [did] using h), fun h => by simpa [sput] using h7 (by simpa [did] using h), fun h => by simpa [sput] using h8 (by simpa [did] using h), fun h => by simpa [sput] using h9 (by simpa [did] using h), fun h => by simpa [sput] using h10 (by simpa [did] using h), fun h => by simpa [sput] using h11 (by simpa [did] using h), fun h => by simpa [sput] using h12 (by simpa [did] using h), fun h => by simpa [sput] using h13 (by simpa [did] using h), fun h => by simpa [sput] using h14 (by simpa [did] using h), fun h => by simpa [sput] using h15 (by simpa [did] using h), fun h => by simpa [sput] using h16 (by simpa [did] using h), fun h => by simpa [sput] using h17 (by simpa [did] using h), fun h => by simpa [sput] using h18 (by simpa [did] using h), fun h => by simpa [sput] using h19 (by simpa [did] using h), fun h => by simpa [sput] using h20 (by simpa [did] using h), hT⟩
              · have g5 := h5 (by simp [hdep])
                refine stepG_plain rfl ?_
                unfold OpSteps
                simp [go_sem, evS, g5]
                exact ⟨fun h => by simpa [sput] using h0 (by simpa [did] using h), fun h => by simpa [sput] using h1 (by simpa [did] using h), fun h => by simpa [sput] using h2 (by simpa [did] using h), fun h => by simpa [sput] using h3 (by simpa [did] using h), fun h => by simpa [sput] using h4 (by simpa [did] using h), fun h => by simpa [sput] using h5 (by simpa [did] using h), fun _ => by simp [sput], fun h => by simpa [sput] using h7 (by simpa [did] using h), fun h => by simpa [sput] using h8 (by simpa [did] using h), fun h => by simpa [sput] using h9 (by simpa [did] using h), fun h => by simpa [sput] using h10 (by simpa [did] using h), fun h => by simpa [sput] using h11 (by simpa [did] using h), fun h => by simpa [sput] using h12 (by simpa [did] using h), fun h => by simpa [sput] using h13 (by simpa [did] using h), fun h => by simpa [sput] using h14 (by simpa [did] using h), fun h => by simpa [sput] using h15 (by simpa [did] using h), fun h => by simpa [sput] using h16 (by simpa [did] using h), fun h => by simpa [sput] using h17 (by simpa [did] using h), fun h => by simpa [sput] using h18 (by simpa [did] using h), fun h => by simpa [sput] using h19 (by simpa [did] using h), fun h => by simpa [sput] using h20 (by simpa [did] using h), hT⟩
              · have g6 := h6 (by simp [hdep])
                refine stepG_on 6 33 false rfl rfl g6 ?_
                unfold OpSteps
                simp [go_sem, evS, f5, g6]
                exact ⟨fun h => by simpa [sput] using h0 (by simpa [did] using h), fun h => by simpa [sput] using h1 (by simpa [did] using h), fun h => by simpa [sput] using h2 (by simpa [did] using h), fun h => by simpa [sput] using h3 (by simpa [did] using h), fun h => by simpa [sput] using h4 (by simpa [did] using h), fun h => by simpa [sput] using h5 (by simpa [did] using h), fun h => by simpa [sput] using h6 (by simpa [did] using h), fun _ => by simp [sput], fun h => by simpa [sput] using h8 (by simpa [did] using h), fun h => by simpa [sput] using h9 (by simpa [did] using h), fun h => by simpa [sput] using h10 (by simpa [did] using h), fun h => by simpa [sput] using h11 (by simpa [did] using h), fun h => by simpa [sput] using h12 (by simpa [did] using h), fun h => by simpa [sput] using h13 (by simpa [did] using h), fun h => by simpa [sput] using h14 (by simpa [did] using h), fun h => by simpa [sput] using h15 (by simpa [did] using h), fun h => by simpa [sput] using h16 (by simpa [did] using h), fun h => by simpa [sput] using h17 (by simpa [did] using h), fun h => by simpa [sput] using h18 (by simpa [did] using h), fun h => by simpa [sput] using h19 (by simpa [did] using h), fun h => by simpa [sput] using h20 (by simpa [did] using h), hT⟩
              · have g7 := h7 (by simp [hdep])
                have g6 := h6 (by simp [hdep])
                refine stepG_on 6 33 false rfl rfl g6 ?_
                unfold OpSteps
                simp [go_sem, evS, g7, g6, d0, d0']
                exact ⟨fun h => by simpa [sput] using h0 (by simpa [did] using h), fun h => by simpa [sput] using h1 (by simpa [did] using h), fun h => by simpa [sput] using h2 (by simpa [did] using h), fun h => by simpa [sput] using h3 (by simpa [did] using h), fun h => by simpa [sput] using h4 (by simpa [did] using h), fun h => by simpa [sput] using h5 (by simpa [did] using h), fun h => by simpa [sput] using h6 (by simpa [did] using h), fun h => by simpa [sput] using h7 (by simpa [did] using h), fun _ => by simp [sput], fun h => by simpa [sput] using h9 (by simpa [did] using h), fun h => by simpa [sput] using h10 (by simpa [did] using h), fun h => by simpa [sput] using h11 (by simpa [did] using h), fun h => by simpa [sput] using h12 (by simpa [did] using h), fun h => by simpa [sput] using h13 (by simpa [did] using h), fun h => by simpa [sput] using h14 (by simpa [did] using h), fun h => by simpa [sput] using h15 (by simpa [did] using h), fun h => by simpa [sput] using h16 (by simpa [did] using h), fun h => by simpa [sput] using h17 (by simpa [did] using h), fun h => by simpa [sput] using h18 (by simpa [did] using h), fun h => by simpa [sput] using h19 (by simpa [did] using h), fun h => by simpa [sput] using h20 (by simpa [did] using h), hT⟩
              · have g8 := h8 (by simp [hdep])
                have g6 := h6 (by simp [hdep])
                refine stepG_on 6 33 false rfl rfl g6 ?_
                unfold OpSteps
                simp [go_sem, evS, g8, g6]
                exact ⟨fun h => by simpa [sput] using h0 (by simpa [did] using h), fun h => by simpa [sput] using h1 (by simpa [did] using h), fun h => by simpa [sput] using h2 (by simpa [did] using h), fun h => by simpa [sput] using h3 (by simpa [did] using h), fun h => by simpa [sput] using h4 (by simpa [did] using h), fun h => by simpa [sput] using h5 (by simpa [did] using h), fun h => by simpa [sput] using h6 (by simpa [did] using h), fun h => by simpa [sput] using h7 (by simpa [did] using h), fun h => by simpa [sput] using h8 (by simpa [did] using h), fun _ => by simp [sput], fun h => by simpa [sput] using h10 (by simpa [did] using h), fun h => by simpa [sput] using h11 (by simpa [did] using h), fun h => by simpa [sput] using h12 (by simpa [did] using h), fun h => by simpa [sput] using h13 (by simpa [did] using h), fun h => by simpa [sput] using h14 (by simpa [did] using h), fun h => by simpa [sput] using h15 (by simpa [did] using h), fun h => by simpa [sput] using h16 (by simpa [did] using h), fun h => by simpa [sput] using h17 (by simpa [did] using h), fun h => by simpa [sput] using h18 (by simpa [did] using h), fun h => by simpa [sput] using h19 (by simpa [did] using h), fun h => by simpa [sput] using h20 (by simpa [did] using h), hT⟩
              · have g9 := h9 (by simp [hdep])
                refine stepG_off 9 36 true rfl rfl (by rw [g9]; rfl) ?_
                exact ⟨fun h => by simpa [sput] using h0 (by simpa [did] using h), fun h => by simpa [sput] using h1 (by simpa [did] using h), fun h => by simpa [sput] using h2 (by simpa [did] using h), fun h => by simpa [sput] using h3 (by simpa [did] using h), fun h => by simpa [sput] using h4 (by simpa [did] using h), fun h => by simpa [sput] using h5 (by simpa [did] using h), fun h => by simpa [sput] using h6 (by simpa [did] using h), fun h => by simpa [sput] using h7 (by simpa [did] using h), fun h => by simpa [sput] using h8 (by simpa [did] using h), fun h => by simpa [sput] using h9 (by simpa [did] using h), fun _ => by simp [sput], fun h => by simpa [sput] using h11 (by simpa [did] using h), fun h => by simpa [sput] using h12 (by simpa [did] using h), fun h => by simpa [sput] using h13 (by simpa [did] using h), fun h => by simpa [sput] using h14 (by simpa [did] using h), fun h => by simpa [sput] using h15 (by simpa [did] using h), fun h => by simpa [sput] using h16 (by simpa [did] using h), fun h => by simpa [sput] using h17 (by simpa [did] using h), fun h => by simpa [sput] using h18 (by simpa [did] using h), fun h => by simpa [sput] using h19 (by simpa [did] using h), fun h => by simpa [sput] using h20 (by simpa [did] using h), hT⟩
              · have g9 := h9 (by simp [hdep])
                refine stepG_off 9 36 true rfl rfl (by rw [g9]; rfl) ?_
                exact ⟨fun h => by simpa [sput] using h0 (by simpa [did] using h), fun h => by simpa [sput] using h1 (by simpa [did] using h), fun h => by simpa [sput] using h2 (by simpa [did] using h), fun h => by simpa [sput] using h3 (by simpa [did] using h), fun h => by simpa [sput] using h4 (by simpa [did] using h), fun h => by simpa [sput] using h5 (by simpa [did] using h), fun h => by simpa [sput] using h6 (by simpa [did] using h), fun h => by simpa [sput] using h7 (by simpa [did] using h), fun h => by simpa [sput] using h8 (by simpa [did] using h), fun h => by simpa [sput] using h9 (by simpa [did] using h), fun h => by simpa [sput] using h10 (by simpa [did] using h), fun _ => by simp [sput], fun h => by simpa [sput] using h12 (by simpa [did] using h), fun h => by simpa [sput] using h13 (by simpa [did] using h), fun h => by simpa [sput] using h14 (by simpa [did] using h), fun h => by simpa [sput] using h15 (by simpa [did] using h), fun h => by simpa [sput] using h16 (by simpa [did] using h), fun h => by simpa [sput] using h17 (by simpa [did] using h), fun h => by simpa [sput] using h18 (by simpa [did] using h), fun h => by simpa [sput] using h19 (by simpa [did] using h), fun h => by simpa [sput] using h20 (by simpa [did] using h), hT⟩
              · have g9 := h9 (by simp [hdep])
                refine stepG_off 9 36 true rfl rfl (by rw [g9]; rfl) ?_
                exact ⟨fun h => by simpa [sput] using h0 (by simpa [did] using h), fun h => by simpa [sput] using h1 (by simpa [did] using h), fun h => by simpa [sput] using h2 (by simpa [did] using h), fun h => by simpa [sput] using h3 (by simpa [did] using h), fun h => by simpa [sput] using h4 (by simpa [did] using h), fun h => by simpa [sput] using h5 (by simpa [did] using h), fun h => by simpa [sput] using h6 (by simpa [did] using h), fun h => by simpa [sput] using h7 (by simpa [did] using h), fun h => by simpa [sput] using h8 (by simpa [did] using h), fun h => by simpa [sput] using h9 (by simpa [did] using h), fun h => by simpa [sput] using h10 (by simpa [did] using h), fun h => by simpa [sput] using h11 (by simpa [did] using h), fun _ => by simp [sput], fun h => by simpa [sput] using h13 (by simpa [did] using h), fun h => by simpa [sput] using h14 (by simpa [did] using h), fun h => by simpa [sput] using h15 (by simpa [did] using h), fun h => by simpa [sput] using h16 (by simpa [did] using h), fun h => by simpa [sput] using h17 (by simpa [did] using h), fun h => by simpa [sput] using h18 (by simpa [did] using h), fun h => by simpa [sput] using h19 (by simpa [did] using h), fun h => by simpa [sput] using h20 (by simpa [did] using h), hT⟩
              · have g9 := h9 (by simp [hdep])
                refine stepG_off 9 36 true rfl rfl (by rw [g9]; rfl) ?_
                exact ⟨fun h => by simpa [sput] using h0 (by simpa [did] using h), fun h => by simpa [sput] using h1 (by simpa [did] using h), fun h => by simpa [sput] using h2 (by simpa [did] using h), fun h => by simpa [sput] using h3 (by simpa [did] using h), fun h => by simpa [sput] using h4 (by simpa [did] using h), fun h => by simpa [sput] using h5 (by simpa [did] using h), fun h => by simpa [sput] using h6 (by simpa [did] using h), fun h => by simpa [sput] using h7 (by simpa [did] using h), fun h => by simpa [sput] using h8 (by simpa [did] using h), fun h => by simpa [sput] using h9 (by simpa [did] using h), fun h => by simpa [sput] using h10 (by simpa [did] using h), fun h => by simpa [sput] using h11 (by simpa [did] using h), fun h => by simpa [sput] using h12 (by simpa [did] using h), fun _ => by simp [sput], fun h => by simpa [sput] using h14 (by simpa [did] using h), fun h => by simpa [sput] using h15 (by simpa [did] using h), fun h => by simpa [sput] using h16 (by simpa [did] using h), fun h => by simpa [sput] using h17 (by simpa [did] using h), fun h => by simpa [sput] using h18 (by simpa [did] using h), fun h => by simpa [sput] using h19 (by simpa [did] using h), fun h => by simpa [sput] using h20 (by simpa [did] using h), hT⟩
              · have g9 := h9 (by simp [hdep])
                refine stepG_off 9 36 true rfl rfl (by rw [g9]; rfl) ?_
                exact ⟨fun h => by simpa [sput] using h0 (by simpa [did] using h), fun h => by simpa [sput] using h1 (by simpa [did] using h), fun h => by simpa [sput] using h2 (by simpa [did] using h), fun h => by simpa [sput] using h3 (by simpa [did] using h), fun h => by simpa [sput] using h4 (by simpa [did] using h), fun h => by simpa [sput] using h5 (by simpa [did] using h), fun h => by simpa [sput] using h6 (by simpa [did] using h), fun h => by simpa [sput] using h7 (by simpa [did] using h), fun h => by simpa [sput] using h8 (by simpa [did] using h), fun h => by simpa [sput] using h9 (by simpa [did] using h), fun h => by simpa [sput] using h10 (by simpa [did] using h), fun h => by simpa [sput] using h11 (by simpa [did] using h), fun h => by simpa [sput] using h12 (by simpa [did] using h), fun h => by simpa [sput] using h13 (by simpa [did] using h), fun _ => by simp [sput], fun h => by simpa [sput] using h15 (by simpa [did] using h), fun h => by simpa [sput] using h16 (by simpa [did] using h), fun h => by simpa [sput] using h17 (by simpa [did] using h), fun h => by simpa [sput] using h18 (by simpa [did] using h), fun h => by simpa [sput] using h19 (by simpa [did] using h), fun h => by simpa [sput] using h20 (by simpa [did] using h), hT⟩
              · have g9 := h9 (by simp [hdep])
                refine stepG_off 9 36 true rfl rfl (by rw [g9]; rfl) ?_
                exact ⟨fun h => by simpa [sput] using h0 (by simpa [did] using h), fun h => by simpa [sput] using h1 (by simpa [did] using h), fun h => by simpa [sput] using h2 (by simpa [did] using h), fun h => by simpa [sput] using h3 (by simpa [did] using h), fun h => by simpa [sput] using h4 (by simpa [did] using h), fun h => by simpa [sput] using h5 (by simpa [did] using h), fun h => by simpa [sput] using h6 (by simpa [did] using h), fun h => by simpa [sput] using h7 (by simpa [did] using h), fun h => by simpa [sput] using h8 (by simpa [did] using h), fun h => by simpa [sput] using h9 (by simpa [did] using h), fun h => by simpa [sput] using h10 (by simpa [did] using h), fun h => by simpa [sput] using h11 (by simpa [did] using h), fun h => by simpa [sput] using h12 (by simpa [did] using h), fun h => by simpa [sput] using h13 (by simpa [did] using h), fun h => by simpa [sput] using h14 (by simpa [did] using h), fun _ => by simp [sput], fun h => by simpa [sput] using h16 (by simpa [did] using h), fun h => by simpa [sput] using h17 (by simpa [did] using h), fun h => by simpa [sput] using h18 (by simpa [did] using h), fun h => by simpa [sput] using h19 (by simpa [did] using h), fun h => by simpa [sput] using h20 (by simpa [did] using h), hT⟩
              · have g9 := h9 (by simp [hdep])
                refine stepG_off 9 36 true rfl rfl (by rw [g9]; rfl) ?_
                exact ⟨fun h => by simpa [sput] using h0 (by simpa [did] using h), fun h => by simpa [sput] using h1 (by simpa [did] using h), fun h => by simpa [sput] using h2 (by simpa [did] using h), fun h => by simpa [sput] using h3 (by simpa [did] using h), fun h => by simpa [sput] using h4 (by simpa [did] using h), fun h => by simpa [sput] using h5 (by simpa [did] using h), fun h => by simpa [sput] using h6 (by simpa [did] using h), fun h => by simpa [sput] using h7 (by simpa [did] using h), fun h => by simpa [sput] using h8 (by simpa [did] using h), fun h => by simpa [sput] using h9 (by simpa [did] using h), fun h => by simpa [sput] using h10 (by simpa [did] using h), fun h => by simpa [sput] using h11 (by simpa [did] using h), fun h => by simpa [sput] using h12 (by simpa [did] using h), fun h => by simpa [sput] using h13 (by simpa [did] using h), fun h => by simpa [sput] using h14 (by simpa [did] using h), fun h => by simpa [sput] using h15 (by simpa [did] using h), fun _ => by simp [sput], fun h => by simpa [sput] using h17 (by simpa [did] using h), fun h => by simpa [sput] using h18 (by simpa [did] using h), fun h => by simpa [sput] using h19 (by simpa [did] using h), fun h => by simpa [sput] using h20 (by simpa [did] using h), hT⟩
              · have g9 := h9 (by simp [hdep])
                refine stepG_off 9 36 true rfl rfl (by rw [g9]; rfl) ?_
                exact ⟨fun h => by simpa [sput] using h0 (by simpa [did] using h), fun h => by simpa [sput] using h1 (by simpa [did] using h), fun h => by simpa [sput] using h2 (by simpa [did] using h), fun h => by simpa [sput] using h3 (by simpa [did] using h), fun h => by simpa [sput] using h4 (by simpa [did] using h), fun h => by simpa [sput] using h5 (by simpa [did] using h), fun h => by simpa [sput] using h6 (by simpa [did] using h), fun h => by simpa [sput] using h7 (by simpa [did] using h), fun h => by simpa [sput] using h8 (by simpa [did] using h), fun h => by simpa [sput] using h9 (by simpa [did] using h), fun h => by simpa [sput] using h10 (by simpa [did] using h), fun h => by simpa [sput] using h11 (by simpa [did] using h), fun h => by simpa [sput] using h12 (by simpa [did] using h), fun h => by simpa [sput] using h13 (by simpa [did] using h), fun h => by simpa [sput] using h14 (by simpa [did] using h), fun h => by simpa [sput] using h15 (by simpa [did] using h), fun h => by simpa [sput] using h16 (by simpa [did] using h), fun _ => by simp [sput], fun h => by simpa [sput] using h18 (by simpa [did] using h), fun h => by simpa [sput] using h19 (by simpa [did] using h), fun h => by simpa [sput] using h20 (by simpa [did] using h), hT⟩
              · have g9 := h9 (by simp [hdep])
                refine stepG_off 9 36 true rfl rfl (by rw [g9]; rfl) ?_
                exact ⟨fun h => by simpa [sput] using h0 (by simpa [did] using h), fun h => by simpa [sput] using h1 (by simpa [did] using h), fun h => by simpa [sput] using h2 (by simpa [did] using h), fun h => by simpa [sput] using h3 (by simpa [did] using h), fun h => by simpa [sput] using h4 (by simpa [did] using h), fun h => by simpa [sput] using h5 (by simpa [did] using h), fun h => by simpa [sput] using h6 (by simpa [did] using h), fun h => by simpa [sput] using h7 (by simpa [did] using h), fun h => by simpa [sput] using h8 (by simpa [did] using h), fun h => by simpa [sput] using h9 (by simpa [did] using h), fun h => by simpa [sput] using h10 (by simpa [did] using h), fun h => by simpa [sput] using h11 (by simpa [did] using h), fun h => by simpa [sput] using h12 (by simpa [did] using h), fun h => by simpa [sput] using h13 (by simpa [did] using h), fun h => by simpa [sput] using h14 (by simpa [did] using h), fun h => by simpa [sput] using h15 (by simpa [did] using h), fun h => by simpa [sput] using h16 (by simpa [did] using h), fun h => by simpa [sput] using h17 (by simpa [did] using h), fun _ => by simp [sput], fun h => by simpa [sput] using h19 (by simpa [did] using h), fun h => by simpa [sput] using h20 (by simpa [did] using h), hT⟩
              · have g9 := h9 (by simp [hdep])
                have g18 := h18 (by simp [hdep])
                have g6 := h6 (by simp [hdep])
                refine stepG_on 6 33 false rfl rfl g6 ?_
                unfold OpSteps
                simp [go_sem, evS, g9, g18, g6]
                exact ⟨fun h => by simpa [sput] using h0 (by simpa [did] using h), fun h => by simpa [sput] using h1 (by simpa [did] using h), fun h => by simpa [sput] using h2 (by simpa [did] using h), fun h => by simpa [sput] using h3 (by simpa [did] using h), fun h => by simpa [sput] using h4 (by simpa [did] using h), fun h => by simpa [sput] using h5 (by simpa [did] using h), fun h => by simpa [sput] using h6 (by simpa [did] using h), fun h => by simpa [sput] using h7 (by simpa [did] using h), fun h => by simpa [sput] using h8 (by simpa [did] using h), fun h => by simpa [sput] using h9 (by simpa [did] using h), fun h => by simpa [sput] using h10 (by simpa [did] using h), fun h => by simpa [sput] using h11 (by simpa [did] using h), fun h => by simpa [sput] using h12 (by simpa [did] using h), fun h => by simpa [sput] using h13 (by simpa [did] using h), fun h => by simpa [sput] using h14 (by simpa [did] using h), fun h => by simpa [sput] using h15 (by simpa [did] using h), fun h => by simpa [sput] using h16 (by simpa [did] using h), fun h => by simpa [sput] using h17 (by simpa [did] using h), fun h => by simpa [sput] using h18 (by simpa [did] using h), fun _ => by simp [sput], fun h => by simpa [sput] using h20 (by simpa [did] using h), hT⟩
              · have g6 := h6 (by simp [hdep])
                have g19 := h19 (by simp [hdep])
                refine stepG_plain rfl ?_
                unfold OpSteps
                simp [go_sem, evS, g6, g19]
                exact ⟨fun h => by simpa [sput] using h0 (by simpa [did] using h), fun h => by simpa [sput] using h1 (by simpa [did] using h), fun h => by simpa [sput] using h2 (by simpa [did] using h), fun h => by simpa [sput] using h3 (by simpa [did] using h), fun h => by simpa [sput] using h4 (by simpa [did] using h), fun h => by simpa [sput] using h5 (by simpa [did] using h), fun h => by simpa [sput] using h6 (by simpa [did] using h), fun h => by simpa [sput] using h7 (by simpa [did] using h), fun h => by simpa [sput] using h8 (by simpa [did] using h), fun h => by simpa [sput] using h9 (by simpa [did] using h), fun h => by simpa [sput] using h10 (by simpa [did] using h), fun h => by simpa [sput] using h11 (by simpa [did] using h), fun h => by simpa [sput] using h12 (by simpa [did] using h), fun h => by simpa [sput] using h13 (by simpa [did] using h), fun h => by simpa [sput] using h14 (by simpa [did] using h), fun h => by simpa [sput] using h15 (by simpa [did] using h), fun h => by simpa [sput] using h16 (by simpa [did] using h), fun h => by simpa [sput] using h17 (by simpa [did] using h), fun h => by simpa [sput] using h18 (by simpa [did] using h), fun h => by simpa [sput] using h19 (by simpa [did] using h), fun _ => by simp [sput], hT⟩
            intro d s W hJ hd
            obtain ⟨h0, h1, h2, h3, h4, h5, h6, h7, h8, h9, h10, h11, h12, h13, h14, h15, h16, h17, h18, h19, h20, hT⟩ := hJ
            have hs47 := h20 (hd 20 (by decide))
            have HB4 := Lib.hid (below_nx HB2.out hT)
            clear h0 h1 h2 h3 h4 h5 h6 h7 h8 h9 h10 h11 h12 h13 h14 h15 h16 h17 h18 h19 h20 hT hd
            simp [setAll, hs47]
            clear hs47
            generalize s 27 = s27
            generalize s 28 = s28
            generalize s 29 = s29
            generalize s 30 = s30
            generalize s 31 = s31
            generalize s 32 = s32
            generalize s 33 = s33
            generalize s 34 = s34
            generalize s 35 = s35
            generalize s 36 = s36
            generalize s 37 = s37
            generalize s 38 = s38
            generalize s 39 = s39
            generalize s 40 = s40
            generalize s 41 = s41
            generalize s 42 = s42
            generalize s 43 = s43
            generalize s 44 = s44
            generalize s 45 = s45
            generalize s 46 = s46
            generalize W = w9 at *
            go_wp2_with fail
            go_roundw
            case rel => exact ⟨q + 1, by omega, by go_num, HB4⟩
            case measure => simp [intOf]; omega

          · skip
            have hqn : q < n := by have := Hn0.out; have := Hpn.out; omega
            have hqi : (q : Int) < (n : Int) := by omega
            have hq1 : q + 1 ≤ 1048576 := by omega
            obtain ⟨hdr, hdk, hdr64, hdk64⟩ := HD.out q hqn
            obtain ⟨c0, c1, c2, c3, c4⟩ := HM.out.below HBr.out q hqn
            rw [hdr] at c2
            rw [hdk] at c3
            obtain ⟨R2, hR2⟩ : ∃ R2, Rn q = R2 := ⟨_, rfl⟩
            obtain ⟨K2, hK2⟩ : ∃ K2, Kn q = K2 := ⟨_, rfl⟩
            rw [hR2] at c2 hdr64
            rw [hK2] at c3 hdk64
            obtain ⟨A2, hA2⟩ : ∃ A2, (mL L q).A = A2 := ⟨_, rfl⟩
            obtain ⟨n2, hn2⟩ : ∃ n2, (mL L q).l.length = n2 := ⟨_, rfl⟩
            obtain ⟨c2', hc2⟩ : ∃ c2', (mL L q).c = c2' := ⟨_, rfl⟩
            obtain ⟨o2, ho2⟩ : ∃ o2, (mL L q).o = o2 := ⟨_, rfl⟩
            obtain ⟨L2, hL2⟩ : ∃ L2, (mL L q).L = L2 := ⟨_, rfl⟩
            rw [hA2, hn2, hc2] at c0
            rw [ho2] at c1
            rw [hL2] at c4
            have e64 : decide ((64 : Int) < ((max R2 K2 : Nat) : Int)) = false := decide_eq_false (by omega)
            have e64' : decide (64 < max R2 K2) = false := decide_eq_false (by omega)
            have d0 : decide ((0 : Int) < (q : Int)) = true := decide_eq_true (by omega)
            have d0' : decide (0 < q) = true := decide_eq_true (by omega)
            obtain ⟨q1, hqq⟩ : ∃ q1, q1 + 1 = q := ⟨q - 1, by omega⟩
            have hqm : q - 1 = q1 := by omega
            have bq : q1 < n := by omega
            have bqi : (q1 : Int) < (n : Int) := by omega
            obtain ⟨_, k2, _, _⟩ := HD.out q1 bq
            obtain ⟨_, _, _, ck, _⟩ := HM.out.below HBr.out q1 bq
            rw [k2] at ck
            obtain ⟨K1, hK1⟩ : ∃ K1, Kn q1 = K1 := ⟨_, rfl⟩
            rw [hK1] at ck
            have hE : ((K1 : Int) != (R2 : Int)) = false := by
              rw [← hK1, ← hR2]
              have := HCh.out q (by omega) (by omega)
              rw [hqm] at this
              rw [this]; simp
            have hE' : (K1 != R2) = false := by
              rw [← hK1, ← hR2]
              have := HCh.out q (by omega) (by omega)
              rw [hqm] at this
              rw [this]; simp
            clear hK1 k2
            have hqs : (q : Int) - 1 = (q1 : Int) := by omega
            have ws1 : wrap64 ((q : Int) - 1) = (q1 : Int) := by rw [hqs]; exact wrap_id (by unfold I64; omega)
            have ws2 : IntKind.i64.wrap ((q : Int) - 1) = (q1 : Int) := by rw [hqs]; exact wrapi (by omega) (by omega)
            have ck0 := ck
            have HZ0 := Lib.hid (Blk.new wr 25 #[.slice A2 n2 c2', .int .i64 o2, .int .i64 (R2 : Int), .int .i64 (K2 : Int), .int .i64 L2])
            have HB20 := Lib.hid (below_al HBr.out (o := .cells #[.slice A2 n2 c2', .int .i64 o2, .int .i64 (R2 : Int), .int .i64 (K2 : Int), .int .i64 L2] 25))
            have HCk0 := Lib.hid (cell_below ck0 (below_one (o := .cells #[.slice A2 n2 c2', .int .i64 o2, .int .i64 (R2 : Int), .int .i64 (K2 : Int), .int .i64 L2] 25)))
            clear hdr hdk hdr64 hdk64 hR2 hK2 hA2 hn2 hc2 ho2 hL2 ck ck0 hqs hqq hqm
            go_wp2_with fail
            clear c0 c1 c2 c3 c4
            generalize hwz : wr.alloc (.cells #[.slice A2 n2 c2', .int .i64 o2, .int .i64 (R2 : Int), .int .i64 (K2 : Int), .int .i64 L2] 25) = wz at *
            generalize hzb : wr.heap.size = zb at *
            have HZ := HZ0
            have HB2 := HB20
            have HCk := HCk0
            clear hwz hzb HZ0 HB20 HCk0
            refine wp_region_invG [27, 28, 29, 30, 31, 32, 33, 34, 35, 36, 37, 38, 39, 40, 41, 42, 43, 44, 45, 46, 47] (fun d s W => (d 0 = true → s 27 = .pointer (some ⟨zb, 2, none⟩)) ∧ (d 1 = true → s 28 = .int .i64 (R2 : Int)) ∧ (d 2 = true → s 29 = .pointer (some ⟨zb, 3, none⟩)) ∧ (d 3 = true → s 30 = .int .i64 (K2 : Int)) ∧ (d 4 = true → s 31 = .int .i64 ((max R2 K2 : Nat) : Int)) ∧ (d 5 = true → s 32 = .bool false) ∧ (d 6 = true → s 33 = .bool false) ∧ (d 7 = true → s 34 = .int .i64 (q : Int)) ∧ (d 8 = true → s 35 = .bool true) ∧ (d 9 = true → s 36 = .bool true) ∧ (d 10 = true → s 37 = .slice (some ⟨b, o, none⟩) n c) ∧ (d 11 = true → s 38 = .int .i64 (q : Int)) ∧ (d 12 = true → s 39 = .int .i64 (q1 : Int)) ∧ (d 13 = true → s 40 = .pointer (some ⟨b, o + q1 * 5, none⟩)) ∧ (d 14 = true → s 41 = .pointer (some ⟨b, o + q1 * 5 + 3, none⟩)) ∧ (d 15 = true → s 42 = .int .i64 (K1 : Int)) ∧ (d 16 = true → s 43 = .pointer (some ⟨zb, 2, none⟩)) ∧ (d 17 = true → s 44 = .int .i64 (R2 : Int)) ∧ (d 18 = true → s 45 = .bool false) ∧ (d 19 = true → s 46 = .bool false) ∧ (d 20 = true → s 47 = .bool false) ∧ Below wz.heap.size wz W)
              rfl (by kernel_rfl) ?_ ?_ ?_
            · exact ⟨by simp, by simp, by simp, by simp, by simp, by simp, by simp, by simp, by simp, by simp, by simp, by simp, by simp, by simp, by simp, by simp, by simp, by simp, by simp, by simp, by simp, (Below.refl _ _).drew⟩
            · refine ⟨?_, ?_, ?_, ?_, ?_, ?_, ?_, ?_, ?_, ?_, ?_, ?_, ?_, ?_, ?_, ?_, ?_, ?_, ?_, ?_, ?_, trivial⟩
              all_goals
                intro d s W hJ hfr hd hdep
                simp only [List.mem_cons, forall_eq_or_imp, List.not_mem_nil, false_implies, implies_true, and_true, Region.binds] at hdep
                have f0 := hfr 0 (by decide)
                have f5 := hfr 5 (by decide)
                have f6 := hfr 6 (by decide)
                simp at f0 f5 f6 hdep
                obtain ⟨h0, h1, h2, h3, h4, h5, h6, h7, h8, h9, h10, h11, h12, h13, h14, h15, h16, h17, h18, h19, h20, hT⟩ := hJ
              · refine stepG_plain rfl ?_
                unfold OpSteps
                simp [go_sem, evS, f6]
                exact ⟨fun _ => by simp [sput], fun h => by simpa [sput] using h1 (by simpa [did] using h), fun h => by simpa [sput] using h2 (by simpa [did] using h), fun h => by simpa [sput] using h3 (by simpa [did] using h), fun h => by simpa [sput] using h4 (by simpa [did] using h), fun h => by simpa [sput] using h5 (by simpa [did] using h), fun h => by simpa [sput] using h6 (by simpa [did] using h), fun h => by simpa [sput] using h7 (by simpa [did] using h), fun h => by simpa [sput] using h8 (by simpa [did] using h), fun h => by simpa [sput] using h9 (by simpa [did] using h), fun h => by simpa [sput] using h10 (by simpa [did] using h), fun h => by simpa [sput] using h11 (by simpa [did] using h), fun h => by simpa [sput] using h12 (by simpa [did] using h), fun h => by simpa [sput] using h13 (by simpa [did] using h), fun h => by simpa [sput] using h14 (by simpa [did] using h), fun h => by simpa [sput] using h15 (by simpa [did] using h), fun h => by simpa [sput] using h16 (by simpa [did] using h), fun h => by simpa [sput] using h17 (by simpa [did] using h), fun h => by simpa [sput] using h18 (by simpa [did] using h), fun h => by simpa [sput] using h19 (by simpa [did] using h), fun h => by simpa [sput] using h20 (by simpa [did] using h), hT⟩
              · have g0 := h0 (by simp [hdep])
                refine stepG_plain rfl ?_
                unfold OpSteps
                obtain ⟨p0, p1, p2, p3, p4⟩ := cells5 (HZ.out.below hT HZ.out.lt)
                simp [go_sem, evS, g0, p0, p1, p2, p3, p4]
                exact ⟨fun h => by simpa [sput] using h0 (by simpa [did] using h), fun _ => by simp [sput], fun h => by simpa [sput] using h2 (by simpa [did] using h), fun h => by simpa [sput] using h3 (by simpa [did] using h), fun h => by simpa [sput] using h4 (by simpa [did] using h), fun h => by simpa [sput] using h5 (by simpa [did] using h), fun h => by simpa [sput] using h6 (by simpa [did] using h), fun h => by simpa [sput] using h7 (by simpa [did] using h), fun h => by simpa [sput] using h8 (by simpa [did] using h), fun h => by simpa [sput] using h9 (by simpa [did] using h), fun h => by simpa [sput] using h10 (by simpa [did] using h), fun h => by simpa [sput] using h11 (by simpa [did] using h), fun h => by simpa [sput] using h12 (by simpa [did] using h), fun h => by simpa [sput] using h13 (by simpa [did] using h), fun h => by simpa [sput] using h14 (by simpa [did] using h), fun h => by simpa [sput] using h15 (by simpa [did] using h), fun h => by simpa [sput] using h16 (by simpa [did] using h), fun h => by simpa [sput] using h17 (by simpa [did] using h), fun h => by simpa [sput] using h18 (by simpa [did] using h), fun h => by simpa [sput] using h19 (by simpa [did] using h), fun h => by simpa [sput] using h20 (by simpa [did] using h), hT⟩
              · refine stepG_plain rfl ?_
                unfold OpSteps
                simp [go_sem, evS, f6]
                exact ⟨fun h => by simpa [sput] using h0 (by simpa [did] using h), fun h => by simpa [sput] using h1 (by simpa [did] using h), fun _ => by simp [sput], fun h => by simpa [sput] using h3 (by simpa [did] using h), fun h => by simpa [sput] using h4 (by simpa [did] using h), fun h => by simpa [sput] using h5 (by simpa [did] using h), fun h => by simpa [sput] using h6 (by simpa [did] using h), fun h => by simpa [sput] using h7 (by simpa [did] using h), fun h => by simpa [sput] using h8 (by simpa [did] using h), fun h => by simpa [sput] using h9 (by simpa [did] using h), fun h => by simpa [sput] using h10 (by simpa [did] using h), fun h => by simpa [sput] using h11 (by simpa [did] using h), fun h => by simpa [sput] using h12 (by simpa [did] using h), fun h => by simpa [sput] using h13 (by simpa [did] using h), fun h => by simpa [sput] using h14 (by simpa [did] using h), fun h => by simpa [sput] using h15 (by simpa [did] using h), fun h => by simpa [sput] using h16 (by simpa [did] using h), fun h => by simpa [sput] using h17 (by simpa [did] using h), fun h => by simpa [sput] using h18 (by simpa [did] using h), fun h => by simpa [sput] using h19 (by simpa [did] using h), fun h => by simpa [sput] using h20 (by simpa [did] using h), hT⟩
              · have g2 := h2 (by simp [hdep])
                refine stepG_plain rfl ?_
                unfold OpSteps
                obtain ⟨p0, p1, p2, p3, p4⟩ := cells5 (HZ.out.below hT HZ.out.lt)
                simp [go_sem, evS, g2, p0, p1, p2, p3, p4]
                exact ⟨fun h => by simpa [sput] using h0 (by simpa [did] using h), fun h => by simpa [sput] using h1 (by simpa [did] using h), fun h => by simpa [sput] using h2 (by simpa [did] using h), fun _ => by simp [sput], fun h => by simpa [sput] using h4 (by simpa [did] using h), fun h => by simpa [sput] using h5 (by simpa [did] using h), fun h => by simpa [sput] using h6 (by simpa [did] using h), fun h => by simpa [sput] using h7 (by simpa [did] using h), fun h => by simpa [sput] using h8 (by simpa [did] using h), fun h => by simpa [sput] using h9 (by simpa [did] using h), fun h => by simpa [sput] using h10 (by simpa [did] using h), fun h => by simpa [sput] using h11 (by simpa [did] using h), fun h => by simpa [sput] using h12 (by simpa [did] using h), fun h => by simpa [sput] using h13 (by simpa [did] using h), fun h => by simpa [sput] using h14 (by simpa [did] using h), fun h => by simpa [sput] using h15 (by simpa [did] using h), fun h => by simpa [sput] using h16 (by simpa [did] using h), fun h => by simpa [sput] using h17 (by simpa [did] using h), fun h => by simpa [sput] using h18 (by simpa [did] using h), fun h => by simpa [sput] using h19 (by simpa [did] using h), fun h => by simpa [sput] using h20 (by simpa [did] using h), hT⟩
              · have g1 := h1 (by simp [hdep])
                have g3 := h3 (by simp [hdep])
                refine stepG_plain rfl ?_
                unfold OpSteps
                simp [go_sem, evS, g1, g3]
                exact ⟨fun h => by simpa [sput] using h0 (by simpa [did] using h), fun h => by simpa [sput] using h1 (by simpa [did] using h), fun h => by simpa [sput] using h2 (by simpa [did] using h), fun h => by simpa [sput] using h3 (by simpa [did] using h), fun _ => by simp [sput], fun h => by simpa [sput] using h5 (by simpa [did] using h), fun h => by simpa [sput] using h6 (by simpa [did] using h), fun h => by simpa [sput] using h7 (by simpa [did] using h), fun h => by simpa [sput] using h8 (by simpa [did] using h), fun h => by simpa [sput] using h9 (by simpa [did] using h), fun h => by simpa [sput] using h10 (by simpa [did] using h), fun h => by simpa [sput] using h11 (by simpa [did] using h), fun h => by simpa [sput] using h12 (by simpa [did] using h), fun h => by simpa [sput] using h13 (by simpa [did] using h), fun h => by simpa [sput] using h14 (by simpa [did] using h), fun h => by simpa [sput] using h15 (by simpa [did] using h), fun h => by simpa [sput] using h16 (by simpa [did] using h), fun h => by simpa [sput] using h17 (by simpa [did] using h), fun h => by simpa [sput] using h18 (by simpa [did] using h), fun h => by simpa [sput] using h19 (by simpa [did] using h), fun h => by simpa [sput] using h20 (by simpa [did] using h), hT⟩
              · have g4 := h4 (by simp [hdep])
                refine stepG_plain rfl ?_
                unfold OpSteps
                simp [go_sem, evS, g4, e64, e64']
                exact ⟨fun h => by simpa [sput] using h0 (by simpa [did] using h), fun h => by simpa [sput] using h1 (by simpa [did] using h), fun h => by simpa [sput] using h2 (by simpa [did] using h), fun h => by simpa [sput] using h3 (by simpa [did] using h), fun h => by simpa [sput] using h4 (by simpa [did] using h), fun _ => by simp [sput], fun h => by simpa [sput] using h6 (by simpa [did] using h), fun h => by simpa [sput] using h7 (by simpa [did] using h), fun h => by simpa [sput] using h8 (by simpa [did] using h), fun h => by simpa [sput] using h9 (by simpa [did] using h), fun h => by simpa [sput] using h10 (by simpa [did] using h), fun h => by simpa [sput] using h11 (by simpa [did] using h), fun h => by simpa [sput] using h12 (by simpa [did] using h), fun h => by simpa [sput] using h13 (by simpa [did] using h), fun h => by simpa [sput] using h14 (by simpa [did] using h), fun h => by simpa [sput] using h15 (by simpa [did] using h), fun h => by simpa [sput] using h16 (by simpa [did] using h), fun h => by simpa [sput] using h17 (by simpa [did] using h), fun h => by simpa [sput] using h18 (by simpa [did] using h), fun h => by simpa [sput] using h19 (by simpa [did] using h), fun h => by simpa [sput] using h20 (by simpa [did] using h), hT⟩
              · have g5 := h5 (by simp [hdep])
                refine stepG_plain rfl ?_
                unfold OpSteps
                simp [go_sem, evS, g5]
                exact ⟨fun h => by simpa [sput] using h0 (by simpa [did] using h), fun h => by simpa [sput] using h1 (by simpa [did] using h), fun h => by simpa [sput] using h2 (by simpa [did] using h), fun h => by simpa [sput] using h3 (by simpa [did] using h), fun h => by simpa [sput] using h4 (by simpa [did] using h), fun h => by simpa [sput] using h5 (by simpa [did] using h), fun _ => by simp [sput], fun h => by simpa [sput] using h7 (by simpa [did] using h), fun h => by simpa [sput] using h8 (by simpa [did] using h), fun h => by simpa [sput] using h9 (by simpa [did] using h), fun h => by simpa [sput] using h10 (by simpa [did] using h), fun h => by simpa [sput] using h11 (by simpa [did] using h), fun h => by simpa [sput] using h12 (by simpa [did] using h), fun h => by simpa [sput] using h13 (by simpa [did] using h), fun h => by simpa [sput] using h14 (by simpa [did] using h), fun h => by simpa [sput] using h15 (by simpa [did] using h), fun h => by simpa [sput] using h16 (by simpa [did] using h), fun h => by simpa [sput] using h17 (by simpa [did] using h), fun h => by simpa [sput] using h18 (by simpa [did] using h), fun h => by simpa [sput] using h19 (by simpa [did] using h), fun h => by simpa [sput] using h20 (by simpa [did] using h), hT⟩
              · have g6 := h6 (by simp [hdep])
                refine stepG_on 6 33 false rfl rfl g6 ?_
                unfold OpSteps
                simp [go_sem, evS, f5, g6]
                exact ⟨fun h => by simpa [sput] using h0 (by simpa [did] using h), fun h => by simpa [sput] using h1 (by simpa [did] using h), fun h => by simpa [sput] using h2 (by simpa [did] using h), fun h => by simpa [sput] using h3 (by simpa [did] using h), fun h => by simpa [sput] using h4 (by simpa [did] using h), fun h => by simpa [sput] using h5 (by simpa [did] using h), fun h => by simpa [sput] using h6 (by simpa [did] using h), fun _ => by simp [sput], fun h => by simpa [sput] using h8 (by simpa [did] using h), fun h => by simpa [sput] using h9 (by simpa [did] using h), fun h => by simpa [sput] using h10 (by simpa [did] using h), fun h => by simpa [sput] using h11 (by simpa [did] using h), fun h => by simpa [sput] using h12 (by simpa [did] using h), fun h => by simpa [sput] using h13 (by simpa [did] using h), fun h => by simpa [sput] using h14 (by simpa [did] using h), fun h => by simpa [sput] using h15 (by simpa [did] using h), fun h => by simpa [sput] using h16 (by simpa [did] using h), fun h => by simpa [sput] using h17 (by simpa [did] using h), fun h => by simpa [sput] using h18 (by simpa [did] using h), fun h => by simpa [sput] using h19 (by simpa [did] using h), fun h => by simpa [sput] using h20 (by simpa [did] using h), hT⟩
              · have g7 := h7 (by simp [hdep])
                have g6 := h6 (by simp [hdep])
                refine stepG_on 6 33 false rfl rfl g6 ?_
                unfold OpSteps
                simp [go_sem, evS, g7, g6, d0, d0']
                exact ⟨fun h => by simpa [sput] using h0 (by simpa [did] using h), fun h => by simpa [sput] using h1 (by simpa [did] using h), fun h => by simpa [sput] using h2 (by simpa [did] using h), fun h => by simpa [sput] using h3 (by simpa [did] using h), fun h => by simpa [sput] using h4 (by simpa [did] using h), fun h => by simpa [sput] using h5 (by simpa [did] using h), fun h => by simpa [sput] using h6 (by simpa [did] using h), fun h => by simpa [sput] using h7 (by simpa [did] using h), fun _ => by simp [sput], fun h => by simpa [sput] using h9 (by simpa [did] using h), fun h => by simpa [sput] using h10 (by simpa [did] using h), fun h => by simpa [sput] using h11 (by simpa [did] using h), fun h => by simpa [sput] using h12 (by simpa [did] using h), fun h => by simpa [sput] using h13 (by simpa [did] using h), fun h => by simpa [sput] using h14 (by simpa [did] using h), fun h => by simpa [sput] using h15 (by simpa [did] using h), fun h => by simpa [sput] using h16 (by simpa [did] using h), fun h => by simpa [sput] using h17 (by simpa [did] using h), fun h => by simpa [sput] using h18 (by simpa [did] using h), fun h => by simpa [sput] using h19 (by simpa [did] using h), fun h => by simpa [sput] using h20 (by simpa [did] using h), hT⟩
              · have g8 := h8 (by simp [hdep])
                have g6 := h6 (by simp [hdep])
                refine stepG_on 6 33 false rfl rfl g6 ?_
                unfold OpSteps
                simp [go_sem, evS, g8, g6]
                exact ⟨fun h => by simpa [sput] using h0 (by simpa [did] using h), fun h => by simpa [sput] using h1 (by simpa [did] using h), fun h => by simpa [sput] using h2 (by simpa [did] using h), fun h => by simpa [sput] using h3 (by simpa [did] using h), fun h => by simpa [sput] using h4 (by simpa [did] using h), fun h => by simpa [sput] using h5 (by simpa [did] using h), fun h => by simpa [sput] using h6 (by simpa [did] using h), fun h => by simpa [sput] using h7 (by simpa [did] using h), fun h => by simpa [sput] using h8 (by simpa [did] using h), fun _ => by simp [sput], fun h => by simpa [sput] using h10 (by simpa [did] using h), fun h => by simpa [sput] using h11 (by simpa [did] using h), fun h => by simpa [sput] using h12 (by simpa [did] using h), fun h => by simpa [sput] using h13 (by simpa [did] using h), fun h => by simpa [sput] using h14 (by simpa [did] using h), fun h => by simpa [sput] using h15 (by simpa [did] using h), fun h => by simpa [sput] using h16 (by simpa [did] using h), fun h => by simpa [sput] using h17 (by simpa [did] using h), fun h => by simpa [sput] using h18 (by simpa [did] using h), fun h => by simpa [sput] using h19 (by simpa [did] using h), fun h => by simpa [sput] using h20 (by simpa [did] using h), hT⟩
              · have g9 := h9 (by simp [hdep])
                refine stepG_on 9 36 true rfl rfl g9 ?_
                unfold OpSteps
                simp [go_sem, evS, f0, g9]
                exact ⟨fun h => by simpa [sput] using h0 (by simpa [did] using h), fun h => by simpa [sput] using h1 (by simpa [did] using h), fun h => by simpa [sput] using h2 (by simpa [did] using h), fun h => by simpa [sput] using h3 (by simpa [did] using h), fun h => by simpa [sput] using h4 (by simpa [did] using h), fun h => by simpa [sput] using h5 (by simpa [did] using h), fun h => by simpa [sput] using h6 (by simpa [did] using h), fun h => by simpa [sput] using h7 (by simpa [did] using h), fun h => by simpa [sput] using h8 (by simpa [did] using h), fun h => by simpa [sput] using h9 (by simpa [did] using h), fun _ => by simp [sput], fun h => by simpa [sput] using h11 (by simpa [did] using h), fun h => by simpa [sput] using h12 (by simpa [did] using h), fun h => by simpa [sput] using h13 (by simpa [did] using h), fun h => by simpa [sput] using h14 (by simpa [did] using h), fun h => by simpa [sput] using h15 (by simpa [did] using h), fun h => by simpa [sput] using h16 (by simpa [did] using h), fun h => by simpa [sput] using h17 (by simpa [did] using h), fun h => by simpa [sput] using h18 (by simpa [did] using h), fun h => by simpa [sput] using h19 (by simpa [did] using h), fun h => by simpa [sput] using h20 (by simpa [did] using h), hT⟩
              · have g9 := h9 (by simp [hdep])
                refine stepG_on 9 36 true rfl rfl g9 ?_
                unfold OpSteps
                simp [go_sem, evS, f5, g9]
                exact ⟨fun h => by simpa [sput] using h0 (by simpa [did] using h), fun h => by simpa [sput] using h1 (by simpa [did] using h), fun h => by simpa [sput] using h2 (by simpa [did] using h), fun h => by simpa [sput] using h3 (by simpa [did] using h), fun h => by simpa [sput] using h4 (by simpa [did] using h), fun h => by simpa [sput] using h5 (by simpa [did] using h), fun h => by simpa [sput] using h6 (by simpa [did] using h), fun h => by simpa [sput] using h7 (by simpa [did] using h), fun h => by simpa [sput] using h8 (by simpa [did] using h), fun h => by simpa [sput] using h9 (by simpa [did] using h), fun h => by simpa [sput] using h10 (by simpa [did] using h), fun _ => by simp [sput], fun h => by simpa [sput] using h12 (by simpa [did] using h), fun h => by simpa [sput] using h13 (by simpa [did] using h), fun h => by simpa [sput] using h14 (by simpa [did] using h), fun h => by simpa [sput] using h15 (by simpa [did] using h), fun h => by simpa [sput] using h16 (by simpa [did] using h), fun h => by simpa [sput] using h17 (by simpa [did] using h), fun h => by simpa [sput] using h18 (by simpa [did] using h), fun h => by simpa [sput] using h19 (by simpa [did] using h), fun h => by simpa [sput] using h20 (by simpa [did] using h), hT⟩
              · have g11 := h11 (by simp [hdep])
                have g9 := h9 (by simp [hdep])
                refine stepG_on 9 36 true rfl rfl g9 ?_
                unfold OpSteps
                simp [go_sem, evS, g11, g9, ws1, ws2]
                exact ⟨fun h => by simpa [sput] using h0 (by simpa [did] using h), fun h => by simpa [sput] using h1 (by simpa [did] using h), fun h => by simpa [sput] using h2 (by simpa [did] using h), fun h => by simpa [sput] using h3 (by simpa [did] using h), fun h => by simpa [sput] using h4 (by simpa [did] using h), fun h => by simpa [sput] using h5 (by simpa [did] using h), fun h => by simpa [sput] using h6 (by simpa [did] using h), fun h => by simpa [sput] using h7 (by simpa [did] using h), fun h => by simpa [sput] using h8 (by simpa [did] using h), fun h => by simpa [sput] using h9 (by simpa [did] using h), fun h => by simpa [sput] using h10 (by simpa [did] using h), fun h => by simpa [sput] using h11 (by simpa [did] using h), fun _ => by simp [sput], fun h => by simpa [sput] using h13 (by simpa [did] using h), fun h => by simpa [sput] using h14 (by simpa [did] using h), fun h => by simpa [sput] using h15 (by simpa [did] using h), fun h => by simpa [sput] using h16 (by simpa [did] using h), fun h => by simpa [sput] using h17 (by simpa [did] using h), fun h => by simpa [sput] using h18 (by simpa [did] using h), fun h => by simpa [sput] using h19 (by simpa [did] using h), fun h => by simpa [sput] using h20 (by simpa [did] using h), hT⟩
              · have g10 := h10 (by simp [hdep])
                have g12 := h12 (by simp [hdep])
                have g9 := h9 (by simp [hdep])
                refine stepG_on 9 36 true rfl rfl g9 ?_
                unfold OpSteps
                simp [go_sem, evS, g10, g12, g9, bq, bqi]
                exact ⟨fun h => by simpa [sput] using h0 (by simpa [did] using h), fun h => by simpa [sput] using h1 (by simpa [did] using h), fun h => by simpa [sput] using h2 (by simpa [did] using h), fun h => by simpa [sput] using h3 (by simpa [did] using h), fun h => by simpa [sput] using h4 (by simpa [did] using h), fun h => by simpa [sput] using h5 (by simpa [did] using h), fun h => by simpa [sput] using h6 (by simpa [did] using h), fun h => by simpa [sput] using h7 (by simpa [did] using h), fun h => by simpa [sput] using h8 (by simpa [did] using h), fun h => by simpa [sput] using h9 (by simpa [did] using h), fun h => by simpa [sput] using h10 (by simpa [did] using h), fun h => by simpa [sput] using h11 (by simpa [did] using h), fun h => by simpa [sput] using h12 (by simpa [did] using h), fun _ => by simp [sput], fun h => by simpa [sput] using h14 (by simpa [did] using h), fun h => by simpa [sput] using h15 (by simpa [did] using h), fun h => by simpa [sput] using h16 (by simpa [did] using h), fun h => by simpa [sput] using h17 (by simpa [did] using h), fun h => by simpa [sput] using h18 (by simpa [did] using h), fun h => by simpa [sput] using h19 (by simpa [did] using h), fun h => by simpa [sput] using h20 (by simpa [did] using h), hT⟩
              · have g13 := h13 (by simp [hdep])
                have g9 := h9 (by simp [hdep])
                refine stepG_on 9 36 true rfl rfl g9 ?_
                unfold OpSteps
                simp [go_sem, evS, g13, g9]
                exact ⟨fun h => by simpa [sput] using h0 (by simpa [did] using h), fun h => by simpa [sput] using h1 (by simpa [did] using h), fun h => by simpa [sput] using h2 (by simpa [did] using h), fun h => by simpa [sput] using h3 (by simpa [did] using h), fun h => by simpa [sput] using h4 (by simpa [did] using h), fun h => by simpa [sput] using h5 (by simpa [did] using h), fun h => by simpa [sput] using h6 (by simpa [did] using h), fun h => by simpa [sput] using h7 (by simpa [did] using h), fun h => by simpa [sput] using h8 (by simpa [did] using h), fun h => by simpa [sput] using h9 (by simpa [did] using h), fun h => by simpa [sput] using h10 (by simpa [did] using h), fun h => by simpa [sput] using h11 (by simpa [did] using h), fun h => by simpa [sput] using h12 (by simpa [did] using h), fun h => by simpa [sput] using h13 (by simpa [did] using h), fun _ => by simp [sput], fun h => by simpa [sput] using h15 (by simpa [did] using h), fun h => by simpa [sput] using h16 (by simpa [did] using h), fun h => by simpa [sput] using h17 (by simpa [did] using h), fun h => by simpa [sput] using h18 (by simpa [did] using h), fun h => by simpa [sput] using h19 (by simpa [did] using h), fun h => by simpa [sput] using h20 (by simpa [did] using h), hT⟩
              · have g14 := h14 (by simp [hdep])
                have g9 := h9 (by simp [hdep])
                refine stepG_on 9 36 true rfl rfl g9 ?_
                unfold OpSteps
                have pc := cell_below HCk.out hT
                simp [go_sem, evS, g14, g9, pc]
                exact ⟨fun h => by simpa [sput] using h0 (by simpa [did] using h), fun h => by simpa [sput] using h1 (by simpa [did] using h), fun h => by simpa [sput] using h2 (by simpa [did] using h), fun h => by simpa [sput] using h3 (by simpa [did] using h), fun h => by simpa [sput] using h4 (by simpa [did] using h), fun h => by simpa [sput] using h5 (by simpa [did] using h), fun h => by simpa [sput] using h6 (by simpa [did] using h), fun h => by simpa [sput] using h7 (by simpa [did] using h), fun h => by simpa [sput] using h8 (by simpa [did] using h), fun h => by simpa [sput] using h9 (by simpa [did] using h), fun h => by simpa [sput] using h10 (by simpa [did] using h), fun h => by simpa [sput] using h11 (by simpa [did] using h), fun h => by simpa [sput] using h12 (by simpa [did] using h), fun h => by simpa [sput] using h13 (by simpa [did] using h), fun h => by simpa [sput] using h14 (by simpa [did] using h), fun _ => by simp [sput], fun h => by simpa [sput] using h16 (by simpa [did] using h), fun h => by simpa [sput] using h17 (by simpa [did] using h), fun h => by simpa [sput] using h18 (by simpa [did] using h), fun h => by simpa [sput] using h19 (by simpa [did] using h), fun h => by simpa [sput] using h20 (by simpa [did] using h), hT⟩
              · have g9 := h9 (by simp [hdep])
                refine stepG_on 9 36 true rfl rfl g9 ?_
                unfold OpSteps
                simp [go_sem, evS, f6, g9]
                exact ⟨fun h => by simpa [sput] using h0 (by simpa [did] using h), fun h => by simpa [sput] using h1 (by simpa [did] using h), fun h => by simpa [sput] using h2 (by simpa [did] using h), fun h => by simpa [sput] using h3 (by simpa [did] using h), fun h => by simpa [sput] using h4 (by simpa [did] using h), fun h => by simpa [sput] using h5 (by simpa [did] using h), fun h => by simpa [sput] using h6 (by simpa [did] using h), fun h => by simpa [sput] using h7 (by simpa [did] using h), fun h => by simpa [sput] using h8 (by simpa [did] using h), fun h => by simpa [sput] using h9 (by simpa [did] using h), fun h => by simpa [sput] using h10 (by simpa [did] using h), fun h => by simpa [sput] using h11 (by simpa [did] using h), fun h => by simpa [sput] using h12 (by simpa [did] using h), fun h => by simpa [sput] using h13 (by simpa [did] using h), fun h => by simpa [sput] using h14 (by simpa [did] using h), fun h => by simpa [sput] using h15 (by simpa [did] using h), fun _ => by simp [sput], fun h => by simpa [sput] using h17 (by simpa [did] using h), fun h => by simpa [sput] using h18 (by simpa [did] using h), fun h => by simpa [sput] using h19 (by simpa [did] using h), fun h => by simpa [sput] using h20 (by simpa [did] using h), hT⟩
              · have g16 := h16 (by simp [hdep])
                have g9 := h9 (by simp [hdep])
                refine stepG_on 9 36 true rfl rfl g9 ?_
                unfold OpSteps
                obtain ⟨p0, p1, p2, p3, p4⟩ := cells5 (HZ.out.below hT HZ.out.lt)
                simp [go_sem, evS, g16, g9, p0, p1, p2, p3, p4]
                exact ⟨fun h => by simpa [sput] using h0 (by simpa [did] using h), fun h => by simpa [sput] using h1 (by simpa [did] using h), fun h => by simpa [sput] using h2 (by simpa [did] using h), fun h => by simpa [sput] using h3 (by simpa [did] using h), fun h => by simpa [sput] using h4 (by simpa [did] using h), fun h => by simpa [sput] using h5 (by simpa [did] using h), fun h => by simpa [sput] using h6 (by simpa [did] using h), fun h => by simpa [sput] using h7 (by simpa [did] using h), fun h => by simpa [sput] using h8 (by simpa [did] using h), fun h => by simpa [sput] using h9 (by simpa [did] using h), fun h => by simpa [sput] using h10 (by simpa [did] using h), fun h => by simpa [sput] using h11 (by simpa [did] using h), fun h => by simpa [sput] using h12 (by simpa [did] using h), fun h => by simpa [sput] using h13 (by simpa [did] using h), fun h => by simpa [sput] using h14 (by simpa [did] using h), fun h => by simpa [sput] using h15 (by simpa [did] using h), fun h => by simpa [sput] using h16 (by simpa [did] using h), fun _ => by simp [sput], fun h => by simpa [sput] using h18 (by simpa [did] using h), fun h => by simpa [sput] using h19 (by simpa [did] using h), fun h => by simpa [sput] using h20 (by simpa [did] using h), hT⟩
              · have g15 := h15 (by simp [hdep])
                have g17 := h17 (by simp [hdep])
                have g9 := h9 (by simp [hdep])
                refine stepG_on 9 36 true rfl rfl g9 ?_
                unfold OpSteps
                simp [go_sem, evS, g15, g17, g9, hE, hE']
                exact ⟨fun h => by simpa [sput] using h0 (by simpa [did] using h), fun h => by simpa [sput] using h1 (by simpa [did] using h), fun h => by simpa [sput] using h2 (by simpa [did] using h), fun h => by simpa [sput] using h3 (by simpa [did] using h), fun h => by simpa [sput] using h4 (by simpa [did] using h), fun h => by simpa [sput] using h5 (by simpa [did] using h), fun h => by simpa [sput] using h6 (by simpa [did] using h), fun h => by simpa [sput] using h7 (by simpa [did] using h), fun h => by simpa [sput] using h8 (by simpa [did] using h), fun h => by simpa [sput] using h9 (by simpa [did] using h), fun h => by simpa [sput] using h10 (by simpa [did] using h), fun h => by simpa [sput] using h11 (by simpa [did] using h), fun h => by simpa [sput] using h12 (by simpa [did] using h), fun h => by simpa [sput] using h13 (by simpa [did] using h), fun h => by simpa [sput] using h14 (by simpa [did] using h), fun h => by simpa [sput] using h15 (by simpa [did] using h), fun h => by simpa [sput] using h16 (by simpa [did] using h), fun h => by simpa [sput] using h17 (by simpa [did] using h), fun _ => by simp [sput], fun h => by simpa [sput] using h19 (by simpa [did] using h), fun h => by simpa [sput] using h20 (by simpa [did] using h), hT⟩
              · have g9 := h9 (by simp [hdep])
                have g18 := h18 (by simp [hdep])
                have g6 := h6 (by simp [hdep])
                refine stepG_on 6 33 false rfl rfl g6 ?_
                unfold OpSteps
                simp [go_sem, evS, g9, g18, g6]
                exact ⟨fun h => by simpa [sput] using h0 (by simpa [did] using h), fun h => by simpa [sput] using h1 (by simpa [did] using h), fun h => by simpa [sput] using h2 (by simpa [did] using h), fun h => by simpa [sput] using h3 (by simpa [did] using h), fun h => by simpa [sput] using h4 (by simpa [did] using h), fun h => by simpa [sput] using h5 (by simpa [did] using h), fun h => by simpa [sput] using h6 (by simpa [did] using h), fun h => by simpa [sput] using h7 (by simpa [did] using h), fun h => by simpa [sput] using h8 (by simpa [did] using h), fun h => by simpa [sput] using h9 (by simpa [did] using h), fun h => by simpa [sput] using h10 (by simpa [did] using h), fun h => by simpa [sput] using h11 (by simpa [did] using h), fun h => by simpa [sput] using h12 (by simpa [did] using h), fun h => by simpa [sput] using h13 (by simpa [did] using h), fun h => by simpa [sput] using h14 (by simpa [did] using h), fun h => by simpa [sput] using h15 (by simpa [did] using h), fun h => by simpa [sput] using h16 (by simpa [did] using h), fun h => by simpa [sput] using h17 (by simpa [did] using h), fun h => by simpa [sput] using h18 (by simpa [did] using h), fun _ => by simp [sput], fun h => by simpa [sput] using h20 (by simpa [did] using h), hT⟩
              · have g6 := h6 (by simp [hdep])
                have g19 := h19 (by simp [hdep])
                refine stepG_plain rfl ?_
                unfold OpSteps
                simp [go_sem, evS, g6, g19]
                exact ⟨fun h => by simpa [sput] using h0 (by simpa [did] using h), fun h => by simpa [sput] using h1 (by simpa [did] using h), fun h => by simpa [sput] using h2 (by simpa [did] using h), fun h => by simpa [sput] using h3 (by simpa [did] using h), fun h => by simpa [sput] using h4 (by simpa [did] using h), fun h => by simpa [sput] using h5 (by simpa [did] using h), fun h => by simpa [sput] using h6 (by simpa [did] using h), fun h => by simpa [sput] using h7 (by simpa [did] using h), fun h => by simpa [sput] using h8 (by simpa [did] using h), fun h => by simpa [sput] using h9 (by simpa [did] using h), fun h => by simpa [sput] using h10 (by simpa [did] using h), fun h => by simpa [sput] using h11 (by simpa [did] using h), fun h => by simpa [sput] using h12 (by simpa [did] using h), fun h => by simpa [sput] using h13 (by simpa [did] using h), fun h => by simpa [sput] using h14 (by simpa [did] using h), fun h => by simpa [sput] using h15 (by simpa [did] using h), fun h => by simpa [sput] using h16 (by simpa [did] using h), fun h => by simpa [sput] using h17 (by simpa [did] using h), fun h => by simpa [sput] using h18 (by simpa [did] using h), fun h => by simpa [sput] using h19 (by simpa [did] using h), fun _ => by simp [sput], hT⟩
            intro d s W hJ hd
            obtain ⟨h0, h1, h2, h3, h4, h5, h6, h7, h8, h9, h10, h11, h12, h13, h14, h15, h16, h17, h18, h19, h20, hT⟩ := hJ
            have hs47 := h20 (hd 20 (by decide))
            have HB4 := Lib.hid (below_nx HB2.out hT)
            clear h0 h1 h2 h3 h4 h5 h6 h7 h8 h9 h10 h11 h12 h13 h14 h15 h16 h17 h18 h19 h20 hT hd
            simp [setAll, hs47]
            clear hs47
            generalize s 27 = s27
            generalize s 28 = s28
            generalize s 29 = s29
            generalize s 30 = s30
            generalize s 31 = s31
            generalize s 32 = s32
            generalize s 33 = s33
            generalize s 34 = s34
            generalize s 35 = s35
            generalize s 36 = s36
            generalize s 37 = s37
            generalize s 38 = s38
            generalize s 39 = s39
            generalize s 40 = s40
            generalize s 41 = s41
            generalize s 42 = s42
            generalize s 43 = s43
            generalize s 44 = s44
            generalize s 45 = s45
            generalize s 46 = s46
            generalize W = w9 at *
            go_wp2_with fail
            go_roundw
            case rel => exact ⟨q + 1, by omega, by go_num, HB4⟩
            case measure => simp [intOf]; omega

        · obtain rfl : q = p := by omega
          have hz := Hpn.out
          have hqn : q < n := by have := Hn0.out; have := Hpn.out; omega
          have hqi : (q : Int) < (n : Int) := by omega
          have hq1 : q + 1 ≤ 1048576 := by omega
          obtain ⟨hdr, hdk, hdr64, hdk64⟩ := HD.out q hqn
          obtain ⟨c0, c1, c2, c3, c4⟩ := HM.out.below HBr.out q hqn
          rw [hdr] at c2
          rw [hdk] at c3
          obtain ⟨R2, hR2⟩ : ∃ R2, Rn q = R2 := ⟨_, rfl⟩
          obtain ⟨K2, hK2⟩ : ∃ K2, Kn q = K2 := ⟨_, rfl⟩
          rw [hR2] at c2 hdr64
          rw [hK2] at c3 hdk64
          obtain ⟨A2, hA2⟩ : ∃ A2, (mL L q).A = A2 := ⟨_, rfl⟩
          obtain ⟨n2, hn2⟩ : ∃ n2, (mL L q).l.length = n2 := ⟨_, rfl⟩
          obtain ⟨c2', hc2⟩ : ∃ c2', (mL L q).c = c2' := ⟨_, rfl⟩
          obtain ⟨o2, ho2⟩ : ∃ o2, (mL L q).o = o2 := ⟨_, rfl⟩
          obtain ⟨L2, hL2⟩ : ∃ L2, (mL L q).L = L2 := ⟨_, rfl⟩
          rw [hA2, hn2, hc2] at c0
          rw [ho2] at c1
          rw [hL2] at c4
          have e64 : decide ((64 : Int) < ((max R2 K2 : Nat) : Int)) = false := decide_eq_false (by omega)
          have e64' : decide (64 < max R2 K2) = false := decide_eq_false (by omega)
          have d0 : decide ((0 : Int) < (q : Int)) = true := decide_eq_true (by omega)
          have d0' : decide (0 < q) = true := decide_eq_true (by omega)
          obtain ⟨q1, hqq⟩ : ∃ q1, q1 + 1 = q := ⟨q - 1, by omega⟩
          have hqm : q - 1 = q1 := by omega
          have bq : q1 < n := by omega
          have bqi : (q1 : Int) < (n : Int) := by omega
          obtain ⟨_, k2, _, _⟩ := HD.out q1 bq
          obtain ⟨_, _, _, ck, _⟩ := HM.out.below HBr.out q1 bq
          rw [k2] at ck
          obtain ⟨K1, hK1⟩ : ∃ K1, Kn q1 = K1 := ⟨_, rfl⟩
          rw [hK1] at ck
          have hE : ((K1 : Int) != (R2 : Int)) = true := by
            rw [← hK1, ← hR2]
            have := HNo.out
            rw [hqm] at this
            simp; omega
          have hE' : (K1 != R2) = true := by
            rw [← hK1, ← hR2]
            have := HNo.out
            rw [hqm] at this
            simp; omega
          clear hK1 k2
          have hqs : (q : Int) - 1 = (q1 : Int) := by omega
          have ws1 : wrap64 ((q : Int) - 1) = (q1 : Int) := by rw [hqs]; exact wrap_id (by unfold I64; omega)
          have ws2 : IntKind.i64.wrap ((q : Int) - 1) = (q1 : Int) := by rw [hqs]; exact wrapi (by omega) (by omega)
          have ck0 := ck
          have HZ0 := Lib.hid (Blk.new wr 25 #[.slice A2 n2 c2', .int .i64 o2, .int .i64 (R2 : Int), .int .i64 (K2 : Int), .int .i64 L2])
          have HB20 := Lib.hid (below_al HBr.out (o := .cells #[.slice A2 n2 c2', .int .i64 o2, .int .i64 (R2 : Int), .int .i64 (K2 : Int), .int .i64 L2] 25))
          have HCk0 := Lib.hid (cell_below ck0 (below_one (o := .cells #[.slice A2 n2 c2', .int .i64 o2, .int .i64 (R2 : Int), .int .i64 (K2 : Int), .int .i64 L2] 25)))
          clear hdr hdk hdr64 hdk64 hR2 hK2 hA2 hn2 hc2 ho2 hL2 ck ck0 hqs hqq hqm
          go_wp2_with fail
          clear c0 c1 c2 c3 c4
          generalize hwz : wr.alloc (.cells #[.slice A2 n2 c2', .int .i64 o2, .int .i64 (R2 : Int), .int .i64 (K2 : Int), .int .i64 L2] 25) = wz at *
          generalize hzb : wr.heap.size = zb at *
          have HZ := HZ0
          have HB2 := HB20
          have HCk := HCk0
          clear hwz hzb HZ0 HB20 HCk0
          refine wp_region_invG [27, 28, 29, 30, 31, 32, 33, 34, 35, 36, 37, 38, 39, 40, 41, 42, 43, 44, 45, 46, 47] (fun d s W => (d 0 = true → s 27 = .pointer (some ⟨zb, 2, none⟩)) ∧ (d 1 = true → s 28 = .int .i64 (R2 : Int)) ∧ (d 2 = true → s 29 = .pointer (some ⟨zb, 3, none⟩)) ∧ (d 3 = true → s 30 = .int .i64 (K2 : Int)) ∧ (d 4 = true → s 31 = .int .i64 ((max R2 K2 : Nat) : Int)) ∧ (d 5 = true → s 32 = .bool false) ∧ (d 6 = true → s 33 = .bool false) ∧ (d 7 = true → s 34 = .int .i64 (q : Int)) ∧ (d 8 = true → s 35 = .bool true) ∧ (d 9 = true → s 36 = .bool true) ∧ (d 10 = true → s 37 = .slice (some ⟨b, o, none⟩) n c) ∧ (d 11 = true → s 38 = .int .i64 (q : Int)) ∧ (d 12 = true → s 39 = .int .i64 (q1 : Int)) ∧ (d 13 = true → s 40 = .pointer (some ⟨b, o + q1 * 5, none⟩)) ∧ (d 14 = true → s 41 = .pointer (some ⟨b, o + q1 * 5 + 3, none⟩)) ∧ (d 15 = true → s 42 = .int .i64 (K1 : Int)) ∧ (d 16 = true → s 43 = .pointer (some ⟨zb, 2, none⟩)) ∧ (d 17 = true → s 44 = .int .i64 (R2 : Int)) ∧ (d 18 = true → s 45 = .bool true) ∧ (d 19 = true → s 46 = .bool true) ∧ (d 20 = true → s 47 = .bool true) ∧ Below wz.heap.size wz W)
            rfl (by kernel_rfl) ?_ ?_ ?_
          · exact ⟨by simp, by simp, by simp, by simp, by simp, by simp, by simp, by simp, by simp, by simp, by simp, by simp, by simp, by simp, by simp, by simp, by simp, by simp, by simp, by simp, by simp, (Below.refl _ _).drew⟩
          · refine ⟨?_, ?_, ?_, ?_, ?_, ?_, ?_, ?_, ?_, ?_, ?_, ?_, ?_, ?_, ?_, ?_, ?_, ?_, ?_, ?_, ?_, trivial⟩
            all_goals
              intro d s W hJ hfr hd hdep
              simp only [List.mem_cons, forall_eq_or_imp, List.not_mem_nil, false_implies, implies_true, and_true, Region.binds] at hdep
              have f0 := hfr 0 (by decide)
              have f5 := hfr 5 (by decide)
              have f6 := hfr 6 (by decide)
              simp at f0 f5 f6 hdep
              obtain ⟨h0, h1, h2, h3, h4, h5, h6, h7, h8, h9, h10, h11, h12, h13, h14, h15, h16, h17, h18, h19, h20, hT⟩ := hJ
            · refine stepG_plain rfl ?_
              unfold OpSteps
              simp [go_sem, evS, f6]
              exact ⟨fun _ => by simp [sput], fun h => by simpa [sput] using h1 (by simpa [did] using h), fun h => by simpa [sput] using h2 (by simpa [did] using h), fun h => by simpa [sput] using h3 (by simpa [did] using h), fun h => by simpa [sput] using h4 (by simpa [did] using h), fun h => by simpa [sput] using h5 (by simpa [did] using h), fun h => by simpa [sput] using h6 (by simpa [did] using h), fun h => by simpa [sput] using h7 (by simpa [did] using h), fun h => by simpa [sput] using h8 (by simpa [did] using h), fun h => by simpa [sput] using h9 (by simpa [did] using h), fun h => by simpa [sput] using h10 (by simpa [did] using h), fun h => by simpa [sput] using h11 (by simpa [did] using h), fun h => by simpa [sput] using h12 (by simpa [did] using h), fun h => by simpa [sput] using h13 (by simpa [did] using h), fun h => by simpa [sput] using h14 (by simpa [did] using h), fun h => by simpa [sput] using h15 (by simpa [did] using h), fun h => by simpa [sput] using h16 (by simpa [did] using h), fun h => by simpa [sput] using h17 (by simpa [did] using h), fun h => by simpa [sput] using h18 (by simpa [did] using h), fun h => by simpa [sput] using h19 (by simpa [did] using h), fun h => by simpa [sput] using h20 (by simpa [did] using h), hT⟩
            · have g0 := h0 (by simp [hdep])
              refine stepG_plain rfl ?_
              unfold OpSteps
              obtain ⟨p0, p1, p2, p3, p4⟩ := cells5 (HZ.out.below hT HZ.out.lt)
              simp [go_sem, evS, g0, p0, p1, p2, p3, p4]
              exact ⟨fun h => by simpa [sput] using h0 (by simpa [did] using h), fun _ => by simp [sput], fun h => by simpa [sput] using h2 (by simpa [did] using h), fun h => by simpa [sput] using h3 (by simpa [did] using h), fun h => by simpa [sput] using h4 (by simpa [did] using h), fun h => by simpa [sput] using h5 (by simpa [did] using h), fun h => by simpa [sput] using h6 (by simpa [did] using h), fun h => by simpa [sput] using h7 (by simpa [did] using h), fun h => by simpa [sput] using h8 (by simpa [did] using h), fun h => by simpa [sput] using h9 (by simpa [did] using h), fun h => by simpa [sput] using h10 (by simpa [did] using h), fun h => by simpa [sput] using h11 (by simpa [did] using h), fun h => by simpa [sput] using h12 (by simpa [did] using h), fun h => by simpa [sput] using h13 (by simpa [did] using h), fun h => by simpa [sput] using h14 (by simpa [did] using h), fun h => by simpa [sput] using h15 (by simpa [did] using h), fun h => by simpa [sput] using h16 (by simpa [did] using h), fun h => by simpa [sput] using h17 (by simpa [did] using h), fun h => by simpa [sput] using h18 (by simpa [did] using h), fun h => by simpa [sput] using h19 (by simpa [did] using h), fun h => by simpa [sput] using h20 (by simpa [did] using h), hT⟩
            · refine stepG_plain rfl ?_
              unfold OpSteps
              simp [go_sem, evS, f6]
              exact ⟨fun h => by simpa [sput] using h0 (by simpa [did] using h), fun h => by simpa [sput] using h1 (by simpa [did] using h), fun _ => by simp [sput], fun h => by simpa [sput] using h3 (by simpa [did] using h), fun h => by simpa [sput] using h4 (by simpa [did] using h), fun h => by simpa [sput] using h5 (by simpa [did] using h), fun h => by simpa [sput] using h6 (by simpa [did] using h), fun h => by simpa [sput] using h7 (by simpa [did] using h), fun h => by simpa [sput] using h8 (by simpa [did] using h), fun h => by simpa [sput] using h9 (by simpa [did] using h), fun h => by simpa [sput] using h10 (by simpa [did] using h), fun h => by simpa [sput] using h11 (by simpa [did] using h), fun h => by simpa [sput] using h12 (by simpa [did] using h), fun h => by simpa [sput] using h13 (by simpa [did] using h), fun h => by simpa [sput] using h14 (by simpa [did] using h), fun h => by simpa [sput] using h15 (by simpa [did] using h), fun h => by simpa [sput] using h16 (by simpa [did] using h), fun h => by simpa [sput] using h17 (by simpa [did] using h), fun h => by simpa [sput] using h18 (by simpa [did] using h), fun h => by simpa [sput] using h19 (by simpa [did] using h), fun h => by simpa [sput] using h20 (by simpa [did] using h), hT⟩
            · have g2 := h2 (by simp [hdep])
              refine stepG_plain rfl ?_
              unfold OpSteps
              obtain ⟨p0, p1, p2, p3, p4⟩ := cells5 (HZ.out.below hT HZ.out.lt)
              simp [go_sem, evS, g2, p0, p1, p2, p3, p4]
              exact ⟨fun h => by simpa [sput] using h0 (by simpa [did] using h), fun h => by simpa [sput] using h1 (by simpa [did] using h), fun h => by simpa [sput] using h2 (by simpa [did] using h), fun _ => by simp [sput], fun h => by simpa [sput] using h4 (by simpa [did] using h), fun h => by simpa [sput] using h5 (by simpa [did] using h), fun h => by simpa [sput] using h6 (by simpa [did] using h), fun h => by simpa [sput] using h7 (by simpa [did] using h), fun h => by simpa [sput] using h8 (by simpa [did] using h), fun h => by simpa [sput] using h9 (by simpa [did] using h), fun h => by simpa [sput] using h10 (by simpa [did] using h), fun h => by simpa [sput] using h11 (by simpa [did] using h), fun h => by simpa [sput] using h12 (by simpa [did] using h), fun h => by simpa [sput] using h13 (by simpa [did] using h), fun h => by simpa [sput] using h14 (by simpa [did] using h), fun h => by simpa [sput] using h15 (by simpa [did] using h), fun h => by simpa [sput] using h16 (by simpa [did] using h), fun h => by simpa [sput] using h17 (by simpa [did] using h), fun h => by simpa [sput] using h18 (by simpa [did] using h), fun h => by simpa [sput] using h19 (by simpa [did] using h), fun h => by simpa [sput] using h20 (by simpa [did] using h), hT⟩
            · have g1 := h1 (by simp [hdep])
              have g3 := h3 (by simp [hdep])
              refine stepG_plain rfl ?_
              unfold OpSteps
              simp [go_sem, evS, g1, g3]
              exact ⟨fun h => by simpa [sput] using h0 (by simpa [did] using h), fun h => by simpa [sput] using h1 (by simpa [did] using h), fun h => by simpa [sput] using h2 (by simpa [did] using h), fun h => by simpa [sput] using h3 (by simpa [did] using h), fun _ => by simp [sput], fun h => by simpa [sput] using h5 (by simpa [did] using h), fun h => by simpa [sput] using h6 (by simpa [did] using h), fun h => by simpa [sput] using h7 (by simpa [did] using h), fun h => by simpa [sput] using h8 (by simpa [did] using h), fun h => by simpa [sput] using h9 (by simpa [did] using h), fun h => by simpa [sput] using h10 (by simpa [did] using h), fun h => by simpa [sput] using h11 (by simpa [did] using h), fun h => by simpa [sput] using h12 (by simpa [did] using h), fun h => by simpa [sput] using h13 (by simpa [did] using h), fun h => by simpa [sput] using h14 (by simpa [did] using h), fun h => by simpa [sput] using h15 (by simpa [did] using h), fun h => by simpa [sput] using h16 (by simpa [did] using h), fun h => by simpa [sput] using h17 (by simpa [did] using h), fun h => by simpa [sput] using h18 (by simpa [did] using h), fun h => by simpa [sput] using h19 (by simpa [did] using h), fun h => by simpa [sput] using h20 (by simpa [did] using h), hT⟩
            · have g4 := h4 (by simp [hdep])
              refine stepG_plain rfl ?_
              unfold OpSteps
              simp [go_sem, evS, g4, e64, e64']
              exact ⟨fun h => by simpa [sput] using h0 (by simpa [did] using h), fun h => by simpa [sput] using h1 (by simpa [did] using h), fun h => by simpa [sput] using h2 (by simpa [did] using h), fun h => by simpa [sput] using h3 (by simpa [did] using h), fun h => by simpa [sput] using h4 (by simpa [did] using h), fun _ => by simp [sput], fun h => by simpa [sput] using h6 (by simpa [did] using h), fun h => by simpa [sput] using h7 (by simpa [did] using h), fun h => by simpa [sput] using h8 (by simpa [did] using h), fun h => by simpa [sput] using h9 (by simpa [did] using h), fun h => by simpa [sput] using h10 (by simpa [did] using h), fun h => by simpa [sput] using h11 (by simpa [did] using h), fun h => by simpa [sput] using h12 (by simpa [did] using h), fun h => by simpa [sput] using h13 (by simpa [did] using h), fun h => by simpa [sput] using h14 (by simpa [did] using h), fun h => by simpa [sput] using h15 (by simpa [did] using h), fun h => by simpa [sput] using h16 (by simpa [did] using h), fun h => by simpa [sput] using h17 (by simpa [did] using h), fun h => by simpa [sput] using h18 (by simpa [did] using h), fun h => by simpa [sput] using h19 (by simpa [did] using h), fun h => by simpa [sput] using h20 (by simpa [did] using h), hT⟩
            · have g5 := h5 (by simp [hdep])
              refine stepG_plain rfl ?_
              unfold OpSteps
              simp [go_sem, evS, g5]
              exact ⟨fun h => by simpa [sput] using h0 (by simpa [did] using h), fun h => by simpa [sput] using h1 (by simpa [did] using h), fun h => by simpa [sput] using h2 (by simpa [did] using h), fun h => by simpa [sput] using h3 (by simpa [did] using h), fun h => by simpa [sput] using h4 (by simpa [did] using h), fun h => by simpa [sput] using h5 (by simpa [did] using h), fun _ => by simp [sput], fun h => by simpa [sput] using h7 (by simpa [did] using h), fun h => by simpa [sput] using h8 (by simpa [did] using h), fun h => by simpa [sput] using h9 (by simpa [did] using h), fun h => by simpa [sput] using h10 (by simpa [did] using h), fun h => by simpa [sput] using h11 (by simpa [did] using h), fun h => by simpa [sput] using h12 (by simpa [did] using h), fun h => by simpa [sput] using h13 (by simpa [did] using h), fun h => by simpa [sput] using h14 (by simpa [did] using h), fun h => by simpa [sput] using h15 (by simpa [did] using h), fun h => by simpa [sput] using h16 (by simpa [did] using h), fun h => by simpa [sput] using h17 (by simpa [did] using h), fun h => by simpa [sput] using h18 (by simpa [did] using h), fun h => by simpa [sput] using h19 (by simpa [did] using h), fun h => by simpa [sput] using h20 (by simpa [did] using h), hT⟩
            · have g6 := h6 (by simp [hdep])
              refine stepG_on 6 33 false rfl rfl g6 ?_
              unfold OpSteps
              simp [go_sem, evS, f5, g6]
              exact ⟨fun h => by simpa [sput] using h0 (by simpa [did] using h), fun h => by simpa [sput] using h1 (by simpa [did] using h), fun h => by simpa [sput] using h2 (by simpa [did] using h), fun h => by simpa [sput] using h3 (by simpa [did] using h), fun h => by simpa [sput] using h4 (by simpa [did] using h), fun h => by simpa [sput] using h5 (by simpa [did] using h), fun h => by simpa [sput] using h6 (by simpa [did] using h), fun _ => by simp [sput], fun h => by simpa [sput] using h8 (by simpa [did] using h), fun h => by simpa [sput] using h9 (by simpa [did] using h), fun h => by simpa [sput] using h10 (by simpa [did] using h), fun h => by simpa [sput] using h11 (by simpa [did] using h), fun h => by simpa [sput] using h12 (by simpa [did] using h), fun h => by simpa [sput] using h13 (by simpa [did] using h), fun h => by simpa [sput] using h14 (by simpa [did] using h), fun h => by simpa [sput] using h15 (by simpa [did] using h), fun h => by simpa [sput] using h16 (by simpa [did] using h), fun h => by simpa [sput] using h17 (by simpa [did] using h), fun h => by simpa [sput] using h18 (by simpa [did] using h), fun h => by simpa [sput] using h19 (by simpa [did] using h), fun h => by simpa [sput] using h20 (by simpa [did] using h), hT⟩
            · have g7 := h7 (by simp [hdep])
              have g6 := h6 (by simp [hdep])
              refine stepG_on 6 33 false rfl rfl g6 ?_
              unfold OpSteps
              simp [go_sem, evS, g7, g6, d0, d0']
              exact ⟨fun h => by simpa [sput] using h0 (by simpa [did] using h), fun h => by simpa [sput] using h1 (by simpa [did] using h), fun h => by simpa [sput] using h2 (by simpa [did] using h), fun h => by simpa [sput] using h3 (by simpa [did] using h), fun h => by simpa [sput] using h4 (by simpa [did] using h), fun h => by simpa [sput] using h5 (by simpa [did] using h), fun h => by simpa [sput] using h6 (by simpa [did] using h), fun h => by simpa [sput] using h7 (by simpa [did] using h), fun _ => by simp [sput], fun h => by simpa [sput] using h9 (by simpa [did] using h), fun h => by simpa [sput] using h10 (by simpa [did] using h), fun h => by simpa [sput] using h11 (by simpa [did] using h), fun h => by simpa [sput] using h12 (by simpa [did] using h), fun h => by simpa [sput] using h13 (by simpa [did] using h), fun h => by simpa [sput] using h14 (by simpa [did] using h), fun h => by simpa [sput] using h15 (by simpa [did] using h), fun h => by simpa [sput] using h16 (by simpa [did] using h), fun h => by simpa [sput] using h17 (by simpa [did] using h), fun h => by simpa [sput] using h18 (by simpa [did] using h), fun h => by simpa [sput] using h19 (by simpa [did] using h), fun h => by simpa [sput] using h20 (by simpa [did] using h), hT⟩
            · have g8 := h8 (by simp [hdep])
              have g6 := h6 (by simp [hdep])
              refine stepG_on 6 33 false rfl rfl g6 ?_
              unfold OpSteps
              simp [go_sem, evS, g8, g6]
              exact ⟨fun h => by simpa [sput] using h0 (by simpa [did] using h), fun h => by simpa [sput] using h1 (by simpa [did] using h), fun h => by simpa [sput] using h2 (by simpa [did] using h), fun h => by simpa [sput] using h3 (by simpa [did] using h), fun h => by simpa [sput] using h4 (by simpa [did] using h), fun h => by simpa [sput] using h5 (by simpa [did] using h), fun h => by simpa [sput] using h6 (by simpa [did] using h), fun h => by simpa [sput] using h7 (by simpa [did] using h), fun h => by simpa [sput] using h8 (by simpa [did] using h), fun _ => by simp [sput], fun h => by simpa [sput] using h10 (by simpa [did] using h), fun h => by simpa [sput] using h11 (by simpa [did] using h), fun h => by simpa [sput] using h12 (by simpa [did] using h), fun h => by simpa [sput] using h13 (by simpa [did] using h), fun h => by simpa [sput] using h14 (by simpa [did] using h), fun h => by simpa [sput] using h15 (by simpa [did] using h), fun h => by simpa [sput] using h16 (by simpa [did] using h), fun h => by simpa [sput] using h17 (by simpa [did] using h), fun h => by simpa [sput] using h18 (by simpa [did] using h), fun h => by simpa [sput] using h19 (by simpa [did] using h), fun h => by simpa [sput] using h20 (by simpa [did] using h), hT⟩
            · have g9 := h9 (by simp [hdep])
              refine stepG_on 9 36 true rfl rfl g9 ?_
              unfold OpSteps
              simp [go_sem, evS, f0, g9]
              exact ⟨fun h => by simpa [sput] using h0 (by simpa [did] using h), fun h => by simpa [sput] using h1 (by simpa [did] using h), fun h => by simpa [sput] using h2 (by simpa [did] using h), fun h => by simpa [sput] using h3 (by simpa [did] using h), fun h => by simpa [sput] using h4 (by simpa [did] using h), fun h => by simpa [sput] using h5 (by simpa [did] using h), fun h => by simpa [sput] using h6 (by simpa [did] using h), fun h => by simpa [sput] using h7 (by simpa [did] using h), fun h => by simpa [sput] using h8 (by simpa [did] using h), fun h => by simpa [sput] using h9 (by simpa [did] using h), fun _ => by simp [sput], fun h => by simpa [sput] using h11 (by simpa [did] using h), fun h => by simpa [sput] using h12 (by simpa [did] using h), fun h => by simpa [sput] using h13 (by simpa [did] using h), fun h => by simpa [sput] using h14 (by simpa [did] using h), fun h => by simpa [sput] using h15 (by simpa [did] using h), fun h => by simpa [sput] using h16 (by simpa [did] using h), fun h => by simpa [sput] using h17 (by simpa [did] using h), fun h => by simpa [sput] using h18 (by simpa [did] using h), fun h => by simpa [sput] using h19 (by simpa [did] using h), fun h => by simpa [sput] using h20 (by simpa [did] using h), hT⟩
            · have g9 := h9 (by simp [hdep])
              refine stepG_on 9 36 true rfl rfl g9 ?_
              unfold OpSteps
              simp [go_sem, evS, f5, g9]
              exact ⟨fun h => by simpa [sput] using h0 (by simpa [did] using h), fun h => by simpa [sput] using h1 (by simpa [did] using h), fun h => by simpa [sput] using h2 (by simpa [did] using h), fun h => by simpa [sput] using h3 (by simpa [did] using h), fun h => by simpa [sput] using h4 (by simpa [did] using h), fun h => by simpa [sput] using h5 (by simpa [did] using h), fun h => by simpa [sput] using h6 (by simpa [did] using h), fun h => by simpa [sput] using h7 (by simpa [did] using h), fun h => by simpa [sput] using h8 (by simpa [did] using h), fun h => by simpa [sput] using h9 (by simpa [did] using h), fun h => by simpa [sput] using h10 (by simpa [did] using h), fun _ => by simp [sput], fun h => by simpa [sput] using h12 (by simpa [did] using h), fun h => by simpa [sput] using h13 (by simpa [did] using h), fun h => by simpa [sput] using h14 (by simpa [did] using h), fun h => by simpa [sput] using h15 (by simpa [did] using h), fun h => by simpa [sput] using h16 (by simpa [did] using h), fun h => by simpa [sput] using h17 (by simpa [did] using h), fun h => by simpa [sput] using h18 (by simpa [did] using h), fun h => by simpa [sput] using h19 (by simpa [did] using h), fun h => by simpa [sput] using h20 (by simpa [did] using h), hT⟩
            · have g11 := h11 (by simp [hdep])
              have g9 := h9 (by simp [hdep])
              refine stepG_on 9 36 true rfl rfl g9 ?_
              unfold OpSteps
              simp [go_sem, evS, g11, g9, ws1, ws2]
              exact ⟨fun h => by simpa [sput] using h0 (by simpa [did] using h), fun h => by simpa [sput] using h1 (by simpa [did] using h), fun h => by simpa [sput] using h2 (by simpa [did] using h), fun h => by simpa [sput] using h3 (by simpa [did] using h), fun h => by simpa [sput] using h4 (by simpa [did] using h), fun h => by simpa [sput] using h5 (by simpa [did] using h), fun h => by simpa [sput] using h6 (by simpa [did] using h), fun h => by simpa [sput] using h7 (by simpa [did] using h), fun h => by simpa [sput] using h8 (by simpa [did] using h), fun h => by simpa [sput] using h9 (by simpa [did] using h), fun h => by simpa [sput] using h10 (by simpa [did] using h), fun h => by simpa [sput] using h11 (by simpa [did] using h), fun _ => by simp [sput], fun h => by simpa [sput] using h13 (by simpa [did] using h), fun h => by simpa [sput] using h14 (by simpa [did] using h), fun h => by simpa [sput] using h15 (by simpa [did] using h), fun h => by simpa [sput] using h16 (by simpa [did] using h), fun h => by simpa [sput] using h17 (by simpa [did] using h), fun h => by simpa [sput] using h18 (by simpa [did] using h), fun h => by simpa [sput] using h19 (by simpa [did] using h), fun h => by simpa [sput] using h20 (by simpa [did] using h), hT⟩
            · have g10 := h10 (by simp [hdep])
              have g12 := h12 (by simp [hdep])
              have g9 := h9 (by simp [hdep])
              refine stepG_on 9 36 true rfl rfl g9 ?_
              unfold OpSteps
              simp [go_sem, evS, g10, g12, g9, bq, bqi]
              exact ⟨fun h => by simpa [sput] using h0 (by simpa [did] using h), fun h => by simpa [sput] using h1 (by simpa [did] using h), fun h => by simpa [sput] using h2 (by simpa [did] using h), fun h => by simpa [sput] using h3 (by simpa [did] using h), fun h => by simpa [sput] using h4 (by simpa [did] using h), fun h => by simpa [sput] using h5 (by simpa [did] using h), fun h => by simpa [sput] using h6 (by simpa [did] using h), fun h => by simpa [sput] using h7 (by simpa [did] using h), fun h => by simpa [sput] using h8 (by simpa [did] using h), fun h => by simpa [sput] using h9 (by simpa [did] using h), fun h => by simpa [sput] using h10 (by simpa [did] using h), fun h => by simpa [sput] using h11 (by simpa [did] using h), fun h => by simpa [sput] using h12 (by simpa [did] using h), fun _ => by simp [sput], fun h => by simpa [sput] using h14 (by simpa [did] using h), fun h => by simpa [sput] using h15 (by simpa [did] using h), fun h => by simpa [sput] using h16 (by simpa [did] using h), fun h => by simpa [sput] using h17 (by simpa [did] using h), fun h => by simpa [sput] using h18 (by simpa [did] using h), fun h => by simpa [sput] using h19 (by simpa [did] using h), fun h => by simpa [sput] using h20 (by simpa [did] using h), hT⟩
            · have g13 := h13 (by simp [hdep])
              have g9 := h9 (by simp [hdep])
              refine stepG_on 9 36 true rfl rfl g9 ?_
              unfold OpSteps
              simp [go_sem, evS, g13, g9]
              exact ⟨fun h => by simpa [sput] using h0 (by simpa [did] using h), fun h => by simpa [sput] using h1 (by simpa [did] using h), fun h => by simpa [sput] using h2 (by simpa [did] using h), fun h => by simpa [sput] using h3 (by simpa [did] using h), fun h => by simpa [sput] using h4 (by simpa [did] using h), fun h => by simpa [sput] using h5 (by simpa [did] using h), fun h => by simpa [sput] using h6 (by simpa [did] using h), fun h => by simpa [sput] using h7 (by simpa [did] using h), fun h => by simpa [sput] using h8 (by simpa [did] using h), fun h => by simpa [sput] using h9 (by simpa [did] using h), fun h => by simpa [sput] using h10 (by simpa [did] using h), fun h => by simpa [sput] using h11 (by simpa [did] using h), fun h => by simpa [sput] using h12 (by simpa [did] using h), fun h => by simpa [sput] using h13 (by simpa [did] using h), fun _ => by simp [sput], fun h => by simpa [sput] using h15 (by simpa [did] using h), fun h => by simpa [sput] using h16 (by simpa [did] using h), fun h => by simpa [sput] using h17 (by simpa [did] using h), fun h => by simpa [sput] using h18 (by simpa [did] using h), fun h => by simpa [sput] using h19 (by simpa [did] using h), fun h => by simpa [sput] using h20 (by simpa [did] using h), hT⟩
            · have g14 := h14 (by simp [hdep])
              have g9 := h9 (by simp [hdep])
              refine stepG_on 9 36 true rfl rfl g9 ?_
              unfold OpSteps
              have pc := cell_below HCk.out hT
              simp [go_sem, evS, g14, g9, pc]
              exact ⟨fun h => by simpa [sput] using h0 (by simpa [did] using h), fun h => by simpa [sput] using h1 (by simpa [did] using h), fun h => by simpa [sput] using h2 (by simpa [did] using h), fun h => by simpa [sput] using h3 (by simpa [did] using h), fun h => by simpa [sput] using h4 (by simpa [did] using h), fun h => by simpa [sput] using h5 (by simpa [did] using h), fun h => by simpa [sput] using h6 (by simpa [did] using h), fun h => by simpa [sput] using h7 (by simpa [did] using h), fun h => by simpa [sput] using h8 (by simpa [did] using h), fun h => by simpa [sput] using h9 (by simpa [did] using h), fun h => by simpa [sput] using h10 (by simpa [did] using h), fun h => by simpa [sput] using h11 (by simpa [did] using h), fun h => by simpa [sput] using h12 (by simpa [did] using h), fun h => by simpa [sput] using h13 (by simpa [did] using h), fun h => by simpa [sput] using h14 (by simpa [did] using h), fun _ => by simp [sput], fun h => by simpa [sput] using h16 (by simpa [did] using h), fun h => by simpa [sput] using h17 (by simpa [did] using h), fun h => by simpa [sput] using h18 (by simpa [did] using h), fun h => by simpa [sput] using h19 (by simpa [did] using h), fun h => by simpa [sput] using h20 (by simpa [did] using h), hT⟩
            · have g9 := h9 (by simp [hdep])
              refine stepG_on 9 36 true rfl rfl g9 ?_
              unfold OpSteps
              simp [go_sem, evS, f6, g9]
              exact ⟨fun h => by simpa [sput] using h0 (by simpa [did] using h), fun h => by simpa [sput] using h1 (by simpa [did] using h), fun h => by simpa [sput] using h2 (by simpa [did] using h), fun h => by simpa [sput] using h3 (by simpa [did] using h), fun h => by simpa [sput] using h4 (by simpa [did] using h), fun h => by simpa [sput] using h5 (by simpa [did] using h), fun h => by simpa [sput] using h6 (by simpa [did] using h), fun h => by simpa [sput] using h7 (by simpa [did] using h), fun h => by simpa [sput] using h8 (by simpa [did] using h), fun h => by simpa [sput] using h9 (by simpa [did] using h), fun h => by simpa [sput] using h10 (by simpa [did] using h), fun h => by simpa [sput] using h11 (by simpa [did] using h), fun h => by simpa [sput] using h12 (by simpa [did] using h), fun h => by simpa [sput] using h13 (by simpa [did] using h), fun h => by simpa [sput] using h14 (by simpa [did] using h), fun h => by simpa [sput] using h15 (by simpa [did] using h), fun _ => by simp [sput], fun h => by simpa [sput] using h17 (by simpa [did] using h), fun h => by simpa [sput] using h18 (by simpa [did] using h), fun h => by simpa [sput] using h19 (by simpa [did] using h), fun h => by simpa [sput] using h20 (by simpa [did] using h), hT⟩
            · have g16 := h16 (by simp [hdep])
              have g9 := h9 (by simp [hdep])
              refine stepG_on 9 36 true rfl rfl g9 ?_
              unfold OpSteps
              obtain ⟨p0, p1, p2, p3, p4⟩ := cells5 (HZ.out.below hT HZ.out.lt)
              simp [go_sem, evS, g16, g9, p0, p1, p2, p3, p4]
              exact ⟨fun h => by simpa [sput] using h0 (by simpa [did] using h), fun h => by simpa [sput] using h1 (by simpa [did] using h), fun h => by simpa [sput] using h2 (by simpa [did] using h), fun h => by simpa [sput] using h3 (by simpa [did] using h), fun h => by simpa [sput] using h4 (by simpa [did] using h), fun h => by simpa [sput] using h5 (by simpa [did] using h), fun h => by simpa [sput] using h6 (by simpa [did] using h), fun h => by simpa [sput] using h7 (by simpa [did] using h), fun h => by simpa [sput] using h8 (by simpa [did] using h), fun h => by simpa [sput] using h9 (by simpa [did] using h), fun h => by simpa [sput] using h10 (by simpa [did] using h), fun h => by simpa [sput] using h11 (by simpa [did] using h), fun h => by simpa [sput] using h12 (by simpa [did] using h), fun h => by simpa [sput] using h13 (by simpa [did] using h), fun h => by simpa [sput] using h14 (by simpa [did] using h), fun h => by simpa [sput] using h15 (by simpa [did] using h), fun h => by simpa [sput] using h16 (by simpa [did] using h), fun _ => by simp [sput], fun h => by simpa [sput] using h18 (by simpa [did] using h), fun h => by simpa [sput] using h19 (by simpa [did] using h), fun h => by simpa [sput] using h20 (by simpa [did] using h), hT⟩
            · have g15 := h15 (by simp [hdep])
              have g17 := h17 (by simp [hdep])
              have g9 := h9 (by simp [hdep])
              refine stepG_on 9 36 true rfl rfl g9 ?_
              unfold OpSteps
              simp [go_sem, evS, g15, g17, g9, hE, hE']
              exact ⟨fun h => by simpa [sput] using h0 (by simpa [did] using h), fun h => by simpa [sput] using h1 (by simpa [did] using h), fun h => by simpa [sput] using h2 (by simpa [did] using h), fun h => by simpa [sput] using h3 (by simpa [did] using h), fun h => by simpa [sput] using h4 (by simpa [did] using h), fun h => by simpa [sput] using h5 (by simpa [did] using h), fun h => by simpa [sput] using h6 (by simpa [did] using h), fun h => by simpa [sput] using h7 (by simpa [did] using h), fun h => by simpa [sput] using h8 (by simpa [did] using h), fun h => by simpa [sput] using h9 (by simpa [did] using h), fun h => by simpa [sput] using h10 (by simpa [did] using h), fun h => by simpa [sput] using h11 (by simpa [did] using h), fun h => by simpa [sput] using h12 (by simpa [did] using h), fun h => by simpa [sput] using h13 (by simpa [did] using h), fun h => by simpa [sput] using h14 (by simpa [did] using h), fun h => by simpa [sput] using h15 (by simpa [did] using h), fun h => by simpa [sput] using h16 (by simpa [did] using h), fun h => by simpa [sput] using h17 (by simpa [did] using h), fun _ => by simp [sput], fun h => by simpa [sput] using h19 (by simpa [did] using h), fun h => by simpa [sput] using h20 (by simpa [did] using h), hT⟩
            · have g9 := h9 (by simp [hdep])
              have g18 := h18 (by simp [hdep])
              have g6 := h6 (by simp [hdep])
              refine stepG_on 6 33 false rfl rfl g6 ?_
              unfold OpSteps
              simp [go_sem, evS, g9, g18, g6]
              exact ⟨fun h => by simpa [sput] using h0 (by simpa [did] using h), fun h => by simpa [sput] using h1 (by simpa [did] using h), fun h => by simpa [sput] using h2 (by simpa [did] using h), fun h => by simpa [sput] using h3 (by simpa [did] using h), fun h => by simpa [sput] using h4 (by simpa [did] using h), fun h => by simpa [sput] using h5 (by simpa [did] using h), fun h => by simpa [sput] using h6 (by simpa [did] using h), fun h => by simpa [sput] using h7 (by simpa [did] using h), fun h => by simpa [sput] using h8 (by simpa [did] using h), fun h => by simpa [sput] using h9 (by simpa [did] using h), fun h => by simpa [sput] using h10 (by simpa [did] using h), fun h => by simpa [sput] using h11 (by simpa [did] using h), fun h => by simpa [sput] using h12 (by simpa [did] using h), fun h => by simpa [sput] using h13 (by simpa [did] using h), fun h => by simpa [sput] using h14 (by simpa [did] using h), fun h => by simpa [sput] using h15 (by simpa [did] using h), fun h => by simpa [sput] using h16 (by simpa [did] using h), fun h => by simpa [sput] using h17 (by simpa [did] using h), fun h => by simpa [sput] using h18 (by simpa [did] using h), fun _ => by simp [sput], fun h => by simpa [sput] using h20 (by simpa [did] using h), hT⟩
            · have g6 := h6 (by simp [hdep])
              have g19 := h19 (by simp [hdep])
              refine stepG_plain rfl ?_
              unfold OpSteps
              simp [go_sem, evS, g6, g19]
              exact ⟨fun h => by simpa [sput] using h0 (by simpa [did] using h), fun h => by simpa [sput] using h1 (by simpa [did] using h), fun h => by simpa [sput] using h2 (by simpa [did] using h), fun h => by simpa [sput] using h3 (by simpa [did] using h), fun h => by simpa [sput] using h4 (by simpa [did] using h), fun h => by simpa [sput] using h5 (by simpa [did] using h), fun h => by simpa [sput] using h6 (by simpa [did] using h), fun h => by simpa [sput] using h7 (by simpa [did] using h), fun h => by simpa [sput] using h8 (by simpa [did] using h), fun h => by simpa [sput] using h9 (by simpa [did] using h), fun h => by simpa [sput] using h10 (by simpa [did] using h), fun h => by simpa [sput] using h11 (by simpa [did] using h), fun h => by simpa [sput] using h12 (by simpa [did] using h), fun h => by simpa [sput] using h13 (by simpa [did] using h), fun h => by simpa [sput] using h14 (by simpa [did] using h), fun h => by simpa [sput] using h15 (by simpa [did] using h), fun h => by simpa [sput] using h16 (by simpa [did] using h), fun h => by simpa [sput] using h17 (by simpa [did] using h), fun h => by simpa [sput] using h18 (by simpa [did] using h), fun h => by simpa [sput] using h19 (by simpa [did] using h), fun _ => by simp [sput], hT⟩
          intro d s W hJ hd
          obtain ⟨h0, h1, h2, h3, h4, h5, h6, h7, h8, h9, h10, h11, h12, h13, h14, h15, h16, h17, h18, h19, h20, hT⟩ := hJ
          have hs47 := h20 (hd 20 (by decide))
          have HB4 := Lib.hid (below_nx HB2.out hT)
          clear h0 h1 h2 h3 h4 h5 h6 h7 h8 h9 h10 h11 h12 h13 h14 h15 h16 h17 h18 h19 h20 hT hd
          simp [setAll, hs47]
          clear hs47
          generalize s 27 = s27
          generalize s 28 = s28
          generalize s 29 = s29
          generalize s 30 = s30
          generalize s 31 = s31
          generalize s 32 = s32
          generalize s 33 = s33
          generalize s 34 = s34
          generalize s 35 = s35
          generalize s 36 = s36
          generalize s 37 = s37
          generalize s 38 = s38
          generalize s 39 = s39
          generalize s 40 = s40
          generalize s 41 = s41
          generalize s 42 = s42
          generalize s 43 = s43
          generalize s 44 = s44
          generalize s 45 = s45
          generalize s 46 = s46
          generalize W = w9 at *
          go_wp2_with fail
          go_ret
          exact ⟨rfl, HB4.out⟩
end Go.Proofs.Ytbbgldelebgnfaa
