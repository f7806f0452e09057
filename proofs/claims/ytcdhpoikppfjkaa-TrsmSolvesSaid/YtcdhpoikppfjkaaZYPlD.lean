/-
Blocks: where n places are cut. Conditions: at most 50 more places.
-/
import Derived.Test.YtcdhpoikppfjkaaZYPlC
set_option linter.unusedVariables false
set_option linter.unusedSimpArgs false
set_option linter.unnecessarySimpa false
namespace Go.Proofs.Ytcdhpoikppfjkaa
open Go.RowKit Go.Sort
attribute [local go_sem ↓] Go.wp_at_zero Go.wp_at_succ

theorem info_pair : (Try.prog.info? 49).map (fun i => (i.zero, i.size, i.bytes)) = some (some (.agg #[.int .i64 0, .int .i64 0]), 2, 16) := by kernel_rfl
theorem ip0 : ∃ i, Try.prog.info? 49 = some i ∧ i.zero = some (.agg #[.int .i64 0, .int .i64 0]) ∧ i.size = 2 ∧ i.bytes = 16 := by
  obtain ⟨i, hi, h⟩ := Option.map_eq_some_iff.1 info_pair
  simp only [Prod.mk.injEq] at h
  exact ⟨i, hi, h.1, h.2.1, h.2.2⟩
theorem ownsRow_row {w : World} {lo n sz : Nat} {t : TypeId} {v : Value} {xs : List Value} (h : w.ownsRow lo t sz v n xs) : ∃ A c, v = .slice A n c ∧ Row w A xs := by
  obtain ⟨h0, ⟨rfl, rfl⟩ | ⟨g, cap, cur, h1, h2, h3, h4, h5, h6, h7⟩⟩ := h
  · exact ⟨none, 0, rfl, .inl (List.length_eq_zero_iff.1 (by omega))⟩
  · refine ⟨_, cap, h1, .inr ⟨g, 0, rfl, fun i u hi => ?_⟩⟩
    rw [Nat.zero_add, Blk.cell (t := t) h3 i]
    rw [← h7, List.getElem?_take] at hi
    split at hi
    · rw [← Array.getElem?_toList]; exact hi
    · cases hi
theorem one_pair {W : World} {b : Nat} {t : TypeId} {x y : Value} (h : Blk W b t #[x, y]) : ∀ (j : Nat) (u : Value), [x, y][j]? = some u → W.cell? ((⟨b, 0, none⟩ : Addr).add j) = some u := fun j u hj => by
  match j, hj with
  | 0, hj =>
    have : u = x := by simpa using hj.symm
    subst this
    exact h.cell 0
  | 1, hj =>
    have : u = y := by simpa using hj.symm
    subst this
    exact h.cell 1
  | j + 2, hj => simp at hj
/-- A list that is being made longer by one pair. -/
def ApP (lo : Nat) (L : List Value) (x y : Value) (w wr : World) (db da : Bool) (vb va : Value) (W : World) : Prop :=
  (da = false → Below wr.heap.size wr W ∧ (db = true → ∃ g, vb = .slice (some ⟨g, 0, none⟩) 1 1 ∧ Blk W g 49 #[x, y])) ∧
  (da = true → W.ownsRow lo 49 2 va (L.length / 2 + 1) (L ++ [x, y]) ∧ Below lo w W)
theorem ApP.made {lo : Nat} {L : List Value} {x y : Value} {w wr : World} {vb va : Value} {W : World} (h : ApP lo L x y w wr false false vb va W) :
    ApP lo L x y w wr true false (.slice (some ⟨W.heap.size, 0, none⟩) 1 1) va (W.alloc (.cells #[x, y] 49)) :=
  ⟨fun _ => ⟨(h.1 rfl).1.trans (((Below.refl W.heap.size W).alloc (Nat.le_refl _) _).mono (h.1 rfl).1.size), fun _ => ⟨_, rfl, Blk.new W 49 #[x, y]⟩⟩, fun e => by cases e⟩
theorem ApP.app {lo m : Nat} {L : List Value} {a b : Int} {w wr : World} {vb va out : Value} {W : World} (h : ApP lo L (.int .i64 a) (.int .i64 b) w wr true false vb va W) (hout : wr.ownsRow lo 49 2 out m L) (hbl : Below lo w wr) (hlo : lo ≤ wr.heap.size) (hm : m ≤ 5000) :
    ∃ g v' w', vb = .slice (some ⟨g, 0, none⟩) 1 1 ∧ (Builtin.append_ #[47, 47] 47 #[out, .slice (some ⟨g, 0, none⟩) 1 1]).run Try.prog W = .ok v' w' ∧ ApP lo L (.int .i64 a) (.int .i64 b) w wr true true vb v' w' := by
  obtain ⟨i0, hi, hz0, hz1, hz2⟩ := ip0
  obtain ⟨hb, hx⟩ := h.1 rfl
  obtain ⟨g, e1, e2⟩ := hx rfl
  have hO : W.ownsRow lo 49 2 out m L := hout.kept (row := none) ⟨hb.os, hb.tape, hb.output, hb.size, fun k hk _ => hb.block k hk⟩ (by cases out.ownBlock <;> simp)
  obtain ⟨v', w', r1, r2, r3, _⟩ := run_append_own W lo 47 47 49 i0 _ 2 16 Try.underlying47 hi hz0 hz1 hz2 rfl (by decide) out m L hO ⟨g, 0, none⟩ 1 1 [.int .i64 a, .int .i64 b] rfl
    (one_pair e2) (by intro u hu; simp at hu; rcases hu with rfl | rfl <;> rfl) (by unfold maxLen; omega) (by omega) (by have := hb.size; omega)
  have hl : L.length / 2 = m := by rw [hO.1]; omega
  refine ⟨g, v', w', e1, r1, ⟨(fun e => by cases e), fun _ => ⟨by rw [hl]; exact r2, ?_⟩⟩⟩
  exact (hbl.trans (hb.mono hlo)).grown r3 (Nat.le_trans hlo hb.size) (fun k hk => (hO.lt k hk).1)
/-- The call returned m blocks. -/
def BlkR (C : List Int) (m : Nat) (w : World) (e : Ending) (w' : World) : Prop := ∃ A c, e = .returned (.slice A m c) ∧ Row w' A (prs C m) ∧ Below w.heap.size w w'

set_option maxRecDepth 100000 in
set_option maxHeartbeats 2000000 in
theorem blocks_ok (N S : Nat) (A : Option Addr) (n c : Nat) (l : List Int) (w : World) (hN : 1 ≤ N) (hN2 : N ≤ 4096) (hS : 1 ≤ S) (hS2 : S < 9223372036854775808) (hA : Row w A (i64s l)) (hln : l.length = n) (hl : l.length ≤ 50) :
    Calls Try.prog 46 #[.int .i64 (N : Int), .int .i64 (S : Int), .slice A n c] w (BlkR (cuts N S l) ((cuts N S l).length - 1) w) := by
  obtain ⟨i0, hi, hz0, hz1, hz2⟩ := ip0
  have HCu := Lib.hid (cuts_any N S A n c l w hN hN2 hS hS2 hA hln hl)
  have hC2 := (cuts_end (S := S) (l := l) hN).2
  have hC3 : (cuts N S l).length ≤ N + 1 := cutsTo_len N
  obtain ⟨C, hC⟩ : ∃ C, cuts N S l = C := ⟨_, rfl⟩
  rw [hC] at HCu hC2 hC3
  rw [hC]
  obtain ⟨m, hm⟩ : ∃ m, C.length = m + 1 := ⟨C.length - 1, by omega⟩
  obtain ⟨M, hM⟩ : ∃ M, C.length = M := ⟨_, rfl⟩
  have e1 : C.length - 1 = m := by omega
  rw [e1]
  have HM := Lib.hid hM
  have HMm := Lib.hid (show M = m + 1 by omega)
  have Hm := Lib.hid (show 1 ≤ m ∧ m ≤ 4096 by omega)
  have HCb := Lib.hid (show ∀ i, 0 ≤ C.getD i 0 ∧ C.getD i 0 ≤ 4096 from fun i => by rw [← hC]; have := cuts_in (N := N) (S := S) (l := l) N i; unfold cuts; omega)
  have hn1 : ¬ (N : Int) < 1 := by omega
  have hn2 : ¬ (4096 : Int) < (N : Int) := by omega
  have hs1 : ¬ (S : Int) < 1 := by omega
  clear hC hC2 hC3 hm e1 hM hN hN2 hS hS2 hA hln hl
  go_enter Try.func46, Try.ntmps46
  go_wp2_with fail
  refine HCu.out.mono ?_
  rintro e w1 ⟨g, cap, rfl, hrow, hcap, hg, hgl, hb⟩
  rw [HM.out] at hcap ⊢
  have HRow := Lib.hid hrow
  have HB1 := Lib.hid hb
  have Hg := Lib.hid (And.intro hg hgl)
  have hw1 : wrap64 ((M : Int) - 1) = (m : Int) := by rw [HMm.out]; have := Hm.out; rw [wrap_id] <;> (try unfold I64) <;> omega
  have hM1 : M - 1 = m := by rw [HMm.out]; rfl
  have hc1 : ¬ cap = 1 := by have := Hm.out; have := HMm.out; omega
  have h1M : (1 : Int) ≤ (M : Int) := by have := HMm.out; omega
  have hMc : M ≤ cap := hcap
  clear hrow hb hg hgl hcap
  go_wp2_with (at_make; refine wpList_make_own _ rfl _ _ 47 rfl w1.heap.size 49 i0 (.agg #[.int .i64 0, .int .i64 0]) 2 Try.underlying47 hi hz0 hz1 .i64 .i64 (m : Int) m rfl (by simp [Act.eval, hw1]) rfl ?m1 ?m2 ?m3 ?_)
  case m1 => rw [hz2]; have := Hm.out; omega
  case m2 => have := Hm.out; unfold maxLen; omega
  case m3 => exact Nat.le_refl _
  intro w2 hown hgrow
  have HOw0 := Lib.hid hown
  have HB2 := Lib.hid (show Below w1.heap.size w1 w2 from ⟨hgrow.os, hgrow.tape, hgrow.output, hgrow.size, fun k hk => hgrow.block k hk (fun e => by cases e)⟩)
  clear hown hgrow hw1
  go_wp2_with fail
  clear hM1 hc1 h1M
  go_loopw [8, 32] (fun out a wr => ∃ q : Nat, q ≤ m ∧ a = .int .i64 (q : Int) ∧ wr.ownsRow w1.heap.size 49 2 out q (prs C q) ∧ Below w1.heap.size w1 wr) (fun _ a _ => m - (intOf a).toNat)
  case atStart => exact ⟨0, Nat.zero_le _, rfl, HOw0.out, HB2.out⟩
  case round =>
    clear HOw0 HB2
    obtain ⟨q, hq, rfl, hown, hbl⟩ := hrel
    have HBl := Lib.hid hbl
    have HOw := Lib.hid hown
    clear hown hbl
    by_cases hlt : q < m
    · have hqc : (q : Int) < (m : Int) := by omega
      have HRw := Lib.hid (HRow.out.below HBl.out)
      have HQl := Lib.hid (show q + 1 < C.length by rw [HM.out, HMm.out]; omega)
      have hcells : wr.cell? ⟨g, q, none⟩ = some (.int .i64 (C.getD q 0)) ∧ wr.cell? ⟨g, 1 + q, none⟩ = some (.int .i64 (C.getD (q + 1) 0)) := by
        have hQl := HQl.out
        rcases HRw.out with h0 | ⟨b9, o9, e9, hc9⟩
        · have := congrArg List.length h0
          simp [i64s] at this
          rw [this] at hQl; simp at hQl
        · simp only [Option.some.injEq, Addr.mk.injEq] at e9
          obtain ⟨rfl, rfl, _⟩ := e9
          have h1 := hc9 q _ (i64s_get C q (by omega))
          have h2 := hc9 (q + 1) _ (i64s_get C (q + 1) (by omega))
          rw [Nat.zero_add] at h1 h2
          rw [Nat.add_comm 1 q, h1, h2, List.getD_eq_getElem?_getD, List.getD_eq_getElem?_getD, List.getElem?_eq_getElem (by omega), List.getElem?_eq_getElem hQl]
          exact ⟨rfl, rfl⟩
      have HPs0 := Lib.hid (prs_succ C q)
      have HQb := Lib.hid (show q ≤ 5000 by have := Hm.out; omega)
      have HPl := Lib.hid (show (prs C q).length / 2 = q by rw [prs_length]; omega)
      obtain ⟨a, ha⟩ : ∃ a, C.getD q 0 = a := ⟨_, rfl⟩
      obtain ⟨b, hb⟩ : ∃ b, C.getD (q + 1) 0 = b := ⟨_, rfl⟩
      have hCb : (0 ≤ a ∧ a ≤ 4096) ∧ 0 ≤ b ∧ b ≤ 4096 := by
        rw [← ha, ← hb]
        exact ⟨HCb.out q, HCb.out (q + 1)⟩
      have hab : IntKind.i64.wrap (b - a) = b - a := wrapi (by omega) (by omega)
      rw [ha, hb] at hcells HPs0
      obtain ⟨dd, hdd⟩ : ∃ dd, b - a = dd := ⟨_, rfl⟩
      have hsub : IntKind.i64.wrap (b - a) = dd := by rw [hab]; exact hdd
      rw [hdd] at HPs0
      have HPs := Lib.hid (show prs C (q + 1) = prs C q ++ [.int .i64 a, .int .i64 dd] from HPs0.out)
      have HCq := Lib.hid hcells.1
      have hc2 := hcells.2
      have bq : q < M := by rw [HMm.out]; omega
      have hq1 : q + 1 ≤ 1048576 := by have := HQb.out; omega
      clear hcells ha hb hCb hab hdd
      go_wp2_with fail
      clear hc2
      refine wp_region_inv [37, 38, 39, 40, 41, 42, 43, 44, 45, 46, 47, 48, 49, 50, 8] (fun d s W => (d 0 = true → s 37 = u8) ∧ (d 1 = true → s 38 = .slice (some ⟨g, 0, none⟩) M cap) ∧ (d 2 = true → s 39 = .int .i64 (q : Int)) ∧ (d 3 = true → s 40 = .pointer (some ⟨g, q, none⟩)) ∧ (d 4 = true → s 41 = .int .i64 a) ∧ (d 5 = true → s 42 = .int .i64 b) ∧ (d 6 = true → s 43 = .slice (some ⟨g, 0, none⟩) M cap) ∧ (d 7 = true → s 44 = .int .i64 (q : Int)) ∧ (d 8 = true → s 45 = .pointer (some ⟨g, q, none⟩)) ∧ (d 9 = true → s 46 = .int .i64 a) ∧ (d 10 = true → s 47 = .int .i64 dd) ∧ (d 11 = true → s 48 = .agg #[.int .i64 a, .int .i64 dd]) ∧ (d 14 = true → s 8 = s 50) ∧ (d 14 = true → d 13 = true) ∧ (d 14 = true → d 0 = true) ∧ (d 14 = false → s 8 = u8) ∧ (d 3 = true → d 1 = true ∧ d 2 = true) ∧ (d 4 = true → d 1 = true ∧ d 2 = true ∧ d 3 = true) ∧ (d 8 = true → d 6 = true ∧ d 7 = true) ∧ (d 9 = true → d 6 = true ∧ d 7 = true ∧ d 8 = true) ∧ (d 10 = true → d 5 = true ∧ d 6 = true ∧ d 7 = true ∧ d 8 = true ∧ d 9 = true) ∧ (d 11 = true → d 1 = true ∧ d 2 = true ∧ d 3 = true ∧ d 4 = true ∧ d 5 = true ∧ d 6 = true ∧ d 7 = true ∧ d 8 = true ∧ d 9 = true ∧ d 10 = true) ∧ (d 12 = true → d 1 = true ∧ d 2 = true ∧ d 3 = true ∧ d 4 = true ∧ d 5 = true ∧ d 6 = true ∧ d 7 = true ∧ d 8 = true ∧ d 9 = true ∧ d 10 = true ∧ d 11 = true) ∧ (d 13 = true → d 0 = true ∧ d 1 = true ∧ d 2 = true ∧ d 3 = true ∧ d 4 = true ∧ d 5 = true ∧ d 6 = true ∧ d 7 = true ∧ d 8 = true ∧ d 9 = true ∧ d 10 = true ∧ d 11 = true ∧ d 12 = true) ∧ ApP w1.heap.size (prs C q) (.int .i64 a) (.int .i64 dd) w1 wr (d 12) (d 13) (s 49) (s 50) W)
        rfl (by kernel_rfl) ?_ ?_ ?_
      · exact ⟨by simp, by simp, by simp, by simp, by simp, by simp, by simp, by simp, by simp, by simp, by simp, by simp, by simp, by simp, by simp, fun _ => by simp, by simp, by simp, by simp, by simp, by simp, by simp, by simp, by simp, ⟨fun _ => ⟨(Below.refl _ _).drew, fun e => by simp at e⟩, fun e => by simp at e⟩⟩
      · refine ⟨?_, ?_, ?_, ?_, ?_, ?_, ?_, ?_, ?_, ?_, ?_, ?_, ?_, ?_, ?_, trivial⟩
        all_goals
          intro d s W hJ hfr hd hdep
          simp only [List.mem_cons, forall_eq_or_imp, List.not_mem_nil, false_implies, implies_true, and_true, Region.binds] at hdep
          have f7 := hfr 7 (by decide)
          have f9 := hfr 9 (by decide)
          have f10 := hfr 10 (by decide)
          simp at f7 f9 f10 hdep
          obtain ⟨h0, h1, h2, h3, h4, h5, h6, h7, h8, h9, h10, h11, h14, x0, x1, x2, x3, x4, x5, x6, x7, x8, x9, x10, hT⟩ := hJ
        · have hl : d 13 = false := by
            cases h : d 13
            · rfl
            · have := x10 h; simp [hd] at this
          rw [hl] at hT
          unfold OpSteps
          have e8 : d 14 = false := by
            cases h : d 14
            · rfl
            · have := x1 h; simp [hd] at this
          have f8 := x2 e8
          simp [go_sem, evS, f8]
          exact ⟨fun _ => by simp [sput], fun h => by simpa [sput] using h1 (by simpa [did] using h), fun h => by simpa [sput] using h2 (by simpa [did] using h), fun h => by simpa [sput] using h3 (by simpa [did] using h), fun h => by simpa [sput] using h4 (by simpa [did] using h), fun h => by simpa [sput] using h5 (by simpa [did] using h), fun h => by simpa [sput] using h6 (by simpa [did] using h), fun h => by simpa [sput] using h7 (by simpa [did] using h), fun h => by simpa [sput] using h8 (by simpa [did] using h), fun h => by simpa [sput] using h9 (by simpa [did] using h), fun h => by simpa [sput] using h10 (by simpa [did] using h), fun h => by simpa [sput] using h11 (by simpa [did] using h), fun h => by simpa [sput] using h14 (by simpa [did] using h), by simpa [sput, did] using x0, fun h => by have := x1 (by simpa [did] using h); simp [did, this], fun h => by simpa [sput] using x2 (by simpa [did] using h), fun h => by have := x3 (by simpa [did] using h); simp [did, this], fun h => by have := x4 (by simpa [did] using h); simp [did, this], fun h => by have := x5 (by simpa [did] using h); simp [did, this], fun h => by have := x6 (by simpa [did] using h); simp [did, this], fun h => by have := x7 (by simpa [did] using h); simp [did, this], fun h => by have := x8 (by simpa [did] using h); simp [did, this], fun h => by have := x9 (by simpa [did] using h); simp [did, this], fun h => by have := x10 (by simpa [did] using h); simp [did, this], by simpa [did, sput, hl] using hT⟩
        · have hl : d 13 = false := by
            cases h : d 13
            · rfl
            · have := x10 h; simp [hd] at this
          rw [hl] at hT
          unfold OpSteps
          simp [go_sem, evS, f7]
          exact ⟨fun h => by simpa [sput] using h0 (by simpa [did] using h), fun _ => by simp [sput], fun h => by simpa [sput] using h2 (by simpa [did] using h), fun h => by simpa [sput] using h3 (by simpa [did] using h), fun h => by simpa [sput] using h4 (by simpa [did] using h), fun h => by simpa [sput] using h5 (by simpa [did] using h), fun h => by simpa [sput] using h6 (by simpa [did] using h), fun h => by simpa [sput] using h7 (by simpa [did] using h), fun h => by simpa [sput] using h8 (by simpa [did] using h), fun h => by simpa [sput] using h9 (by simpa [did] using h), fun h => by simpa [sput] using h10 (by simpa [did] using h), fun h => by simpa [sput] using h11 (by simpa [did] using h), fun h => by simpa [sput] using h14 (by simpa [did] using h), by simpa [sput, did] using x0, fun h => by have := x1 (by simpa [did] using h); simp [did, this], fun h => by simpa [sput] using x2 (by simpa [did] using h), fun h => by have := x3 (by simpa [did] using h); simp [did, this], fun h => by have := x4 (by simpa [did] using h); simp [did, this], fun h => by have := x5 (by simpa [did] using h); simp [did, this], fun h => by have := x6 (by simpa [did] using h); simp [did, this], fun h => by have := x7 (by simpa [did] using h); simp [did, this], fun h => by have := x8 (by simpa [did] using h); simp [did, this], fun h => by have := x9 (by simpa [did] using h); simp [did, this], fun h => by have := x10 (by simpa [did] using h); simp [did, this], by simpa [did, sput, hl] using hT⟩
        · have hl : d 13 = false := by
            cases h : d 13
            · rfl
            · have := x10 h; simp [hd] at this
          rw [hl] at hT
          unfold OpSteps
          simp [go_sem, evS, f9]
          exact ⟨fun h => by simpa [sput] using h0 (by simpa [did] using h), fun h => by simpa [sput] using h1 (by simpa [did] using h), fun _ => by simp [sput], fun h => by simpa [sput] using h3 (by simpa [did] using h), fun h => by simpa [sput] using h4 (by simpa [did] using h), fun h => by simpa [sput] using h5 (by simpa [did] using h), fun h => by simpa [sput] using h6 (by simpa [did] using h), fun h => by simpa [sput] using h7 (by simpa [did] using h), fun h => by simpa [sput] using h8 (by simpa [did] using h), fun h => by simpa [sput] using h9 (by simpa [did] using h), fun h => by simpa [sput] using h10 (by simpa [did] using h), fun h => by simpa [sput] using h11 (by simpa [did] using h), fun h => by simpa [sput] using h14 (by simpa [did] using h), by simpa [sput, did] using x0, fun h => by have := x1 (by simpa [did] using h); simp [did, this], fun h => by simpa [sput] using x2 (by simpa [did] using h), fun h => by have := x3 (by simpa [did] using h); simp [did, this], fun h => by have := x4 (by simpa [did] using h); simp [did, this], fun h => by have := x5 (by simpa [did] using h); simp [did, this], fun h => by have := x6 (by simpa [did] using h); simp [did, this], fun h => by have := x7 (by simpa [did] using h); simp [did, this], fun h => by have := x8 (by simpa [did] using h); simp [did, this], fun h => by have := x9 (by simpa [did] using h); simp [did, this], fun h => by have := x10 (by simpa [did] using h); simp [did, this], by simpa [did, sput, hl] using hT⟩
        · have hl : d 13 = false := by
            cases h : d 13
            · rfl
            · have := x10 h; simp [hd] at this
          rw [hl] at hT
          have g1 := h1 (by simp [hdep])
          have g2 := h2 (by simp [hdep])
          unfold OpSteps
          simp [go_sem, evS, g1, g2, bq]
          exact ⟨fun h => by simpa [sput] using h0 (by simpa [did] using h), fun h => by simpa [sput] using h1 (by simpa [did] using h), fun h => by simpa [sput] using h2 (by simpa [did] using h), fun _ => by simp [sput], fun h => by simpa [sput] using h4 (by simpa [did] using h), fun h => by simpa [sput] using h5 (by simpa [did] using h), fun h => by simpa [sput] using h6 (by simpa [did] using h), fun h => by simpa [sput] using h7 (by simpa [did] using h), fun h => by simpa [sput] using h8 (by simpa [did] using h), fun h => by simpa [sput] using h9 (by simpa [did] using h), fun h => by simpa [sput] using h10 (by simpa [did] using h), fun h => by simpa [sput] using h11 (by simpa [did] using h), fun h => by simpa [sput] using h14 (by simpa [did] using h), by simpa [sput, did] using x0, fun h => by have := x1 (by simpa [did] using h); simp [did, this], fun h => by simpa [sput] using x2 (by simpa [did] using h), fun _ => by simp [did, hdep], fun h => by have := x4 (by simpa [did] using h); simp [did, this], fun h => by have := x5 (by simpa [did] using h); simp [did, this], fun h => by have := x6 (by simpa [did] using h); simp [did, this], fun h => by have := x7 (by simpa [did] using h); simp [did, this], fun h => by have := x8 (by simpa [did] using h); simp [did, this], fun h => by have := x9 (by simpa [did] using h); simp [did, this], fun h => by have := x10 (by simpa [did] using h); simp [did, this], by simpa [did, sput, hl] using hT⟩
        · have hl : d 13 = false := by
            cases h : d 13
            · rfl
            · have := x10 h; simp [hd] at this
          rw [hl] at hT
          have g3 := h3 (by simp [hdep])
          unfold OpSteps
          have pc := cell_below HCq.out (hT.1 rfl).1
          simp [go_sem, evS, g3, pc]
          exact ⟨fun h => by simpa [sput] using h0 (by simpa [did] using h), fun h => by simpa [sput] using h1 (by simpa [did] using h), fun h => by simpa [sput] using h2 (by simpa [did] using h), fun h => by simpa [sput] using h3 (by simpa [did] using h), fun _ => by simp [sput], fun h => by simpa [sput] using h5 (by simpa [did] using h), fun h => by simpa [sput] using h6 (by simpa [did] using h), fun h => by simpa [sput] using h7 (by simpa [did] using h), fun h => by simpa [sput] using h8 (by simpa [did] using h), fun h => by simpa [sput] using h9 (by simpa [did] using h), fun h => by simpa [sput] using h10 (by simpa [did] using h), fun h => by simpa [sput] using h11 (by simpa [did] using h), fun h => by simpa [sput] using h14 (by simpa [did] using h), by simpa [sput, did] using x0, fun h => by have := x1 (by simpa [did] using h); simp [did, this], fun h => by simpa [sput] using x2 (by simpa [did] using h), fun h => by have := x3 (by simpa [did] using h); simp [did, this], fun _ => by have y3 := x3 (by simp [hdep]); simp [did, hdep, y3], fun h => by have := x5 (by simpa [did] using h); simp [did, this], fun h => by have := x6 (by simpa [did] using h); simp [did, this], fun h => by have := x7 (by simpa [did] using h); simp [did, this], fun h => by have := x8 (by simpa [did] using h); simp [did, this], fun h => by have := x9 (by simpa [did] using h); simp [did, this], fun h => by have := x10 (by simpa [did] using h); simp [did, this], by simpa [did, sput, hl] using hT⟩
        · have hl : d 13 = false := by
            cases h : d 13
            · rfl
            · have := x10 h; simp [hd] at this
          rw [hl] at hT
          unfold OpSteps
          simp [go_sem, evS, f10]
          exact ⟨fun h => by simpa [sput] using h0 (by simpa [did] using h), fun h => by simpa [sput] using h1 (by simpa [did] using h), fun h => by simpa [sput] using h2 (by simpa [did] using h), fun h => by simpa [sput] using h3 (by simpa [did] using h), fun h => by simpa [sput] using h4 (by simpa [did] using h), fun _ => by simp [sput], fun h => by simpa [sput] using h6 (by simpa [did] using h), fun h => by simpa [sput] using h7 (by simpa [did] using h), fun h => by simpa [sput] using h8 (by simpa [did] using h), fun h => by simpa [sput] using h9 (by simpa [did] using h), fun h => by simpa [sput] using h10 (by simpa [did] using h), fun h => by simpa [sput] using h11 (by simpa [did] using h), fun h => by simpa [sput] using h14 (by simpa [did] using h), by simpa [sput, did] using x0, fun h => by have := x1 (by simpa [did] using h); simp [did, this], fun h => by simpa [sput] using x2 (by simpa [did] using h), fun h => by have := x3 (by simpa [did] using h); simp [did, this], fun h => by have := x4 (by simpa [did] using h); simp [did, this], fun h => by have := x5 (by simpa [did] using h); simp [did, this], fun h => by have := x6 (by simpa [did] using h); simp [did, this], fun h => by have := x7 (by simpa [did] using h); simp [did, this], fun h => by have := x8 (by simpa [did] using h); simp [did, this], fun h => by have := x9 (by simpa [did] using h); simp [did, this], fun h => by have := x10 (by simpa [did] using h); simp [did, this], by simpa [did, sput, hl] using hT⟩
        · have hl : d 13 = false := by
            cases h : d 13
            · rfl
            · have := x10 h; simp [hd] at this
          rw [hl] at hT
          unfold OpSteps
          simp [go_sem, evS, f7]
          exact ⟨fun h => by simpa [sput] using h0 (by simpa [did] using h), fun h => by simpa [sput] using h1 (by simpa [did] using h), fun h => by simpa [sput] using h2 (by simpa [did] using h), fun h => by simpa [sput] using h3 (by simpa [did] using h), fun h => by simpa [sput] using h4 (by simpa [did] using h), fun h => by simpa [sput] using h5 (by simpa [did] using h), fun _ => by simp [sput], fun h => by simpa [sput] using h7 (by simpa [did] using h), fun h => by simpa [sput] using h8 (by simpa [did] using h), fun h => by simpa [sput] using h9 (by simpa [did] using h), fun h => by simpa [sput] using h10 (by simpa [did] using h), fun h => by simpa [sput] using h11 (by simpa [did] using h), fun h => by simpa [sput] using h14 (by simpa [did] using h), by simpa [sput, did] using x0, fun h => by have := x1 (by simpa [did] using h); simp [did, this], fun h => by simpa [sput] using x2 (by simpa [did] using h), fun h => by have := x3 (by simpa [did] using h); simp [did, this], fun h => by have := x4 (by simpa [did] using h); simp [did, this], fun h => by have := x5 (by simpa [did] using h); simp [did, this], fun h => by have := x6 (by simpa [did] using h); simp [did, this], fun h => by have := x7 (by simpa [did] using h); simp [did, this], fun h => by have := x8 (by simpa [did] using h); simp [did, this], fun h => by have := x9 (by simpa [did] using h); simp [did, this], fun h => by have := x10 (by simpa [did] using h); simp [did, this], by simpa [did, sput, hl] using hT⟩
        · have hl : d 13 = false := by
            cases h : d 13
            · rfl
            · have := x10 h; simp [hd] at this
          rw [hl] at hT
          unfold OpSteps
          simp [go_sem, evS, f9]
          exact ⟨fun h => by simpa [sput] using h0 (by simpa [did] using h), fun h => by simpa [sput] using h1 (by simpa [did] using h), fun h => by simpa [sput] using h2 (by simpa [did] using h), fun h => by simpa [sput] using h3 (by simpa [did] using h), fun h => by simpa [sput] using h4 (by simpa [did] using h), fun h => by simpa [sput] using h5 (by simpa [did] using h), fun h => by simpa [sput] using h6 (by simpa [did] using h), fun _ => by simp [sput], fun h => by simpa [sput] using h8 (by simpa [did] using h), fun h => by simpa [sput] using h9 (by simpa [did] using h), fun h => by simpa [sput] using h10 (by simpa [did] using h), fun h => by simpa [sput] using h11 (by simpa [did] using h), fun h => by simpa [sput] using h14 (by simpa [did] using h), by simpa [sput, did] using x0, fun h => by have := x1 (by simpa [did] using h); simp [did, this], fun h => by simpa [sput] using x2 (by simpa [did] using h), fun h => by have := x3 (by simpa [did] using h); simp [did, this], fun h => by have := x4 (by simpa [did] using h); simp [did, this], fun h => by have := x5 (by simpa [did] using h); simp [did, this], fun h => by have := x6 (by simpa [did] using h); simp [did, this], fun h => by have := x7 (by simpa [did] using h); simp [did, this], fun h => by have := x8 (by simpa [did] using h); simp [did, this], fun h => by have := x9 (by simpa [did] using h); simp [did, this], fun h => by have := x10 (by simpa [did] using h); simp [did, this], by simpa [did, sput, hl] using hT⟩
        · have hl : d 13 = false := by
            cases h : d 13
            · rfl
            · have := x10 h; simp [hd] at this
          rw [hl] at hT
          have g6 := h6 (by simp [hdep])
          have g7 := h7 (by simp [hdep])
          unfold OpSteps
          simp [go_sem, evS, g6, g7, bq]
          exact ⟨fun h => by simpa [sput] using h0 (by simpa [did] using h), fun h => by simpa [sput] using h1 (by simpa [did] using h), fun h => by simpa [sput] using h2 (by simpa [did] using h), fun h => by simpa [sput] using h3 (by simpa [did] using h), fun h => by simpa [sput] using h4 (by simpa [did] using h), fun h => by simpa [sput] using h5 (by simpa [did] using h), fun h => by simpa [sput] using h6 (by simpa [did] using h), fun h => by simpa [sput] using h7 (by simpa [did] using h), fun _ => by simp [sput], fun h => by simpa [sput] using h9 (by simpa [did] using h), fun h => by simpa [sput] using h10 (by simpa [did] using h), fun h => by simpa [sput] using h11 (by simpa [did] using h), fun h => by simpa [sput] using h14 (by simpa [did] using h), by simpa [sput, did] using x0, fun h => by have := x1 (by simpa [did] using h); simp [did, this], fun h => by simpa [sput] using x2 (by simpa [did] using h), fun h => by have := x3 (by simpa [did] using h); simp [did, this], fun h => by have := x4 (by simpa [did] using h); simp [did, this], fun _ => by simp [did, hdep], fun h => by have := x6 (by simpa [did] using h); simp [did, this], fun h => by have := x7 (by simpa [did] using h); simp [did, this], fun h => by have := x8 (by simpa [did] using h); simp [did, this], fun h => by have := x9 (by simpa [did] using h); simp [did, this], fun h => by have := x10 (by simpa [did] using h); simp [did, this], by simpa [did, sput, hl] using hT⟩
        · have hl : d 13 = false := by
            cases h : d 13
            · rfl
            · have := x10 h; simp [hd] at this
          rw [hl] at hT
          have g8 := h8 (by simp [hdep])
          unfold OpSteps
          have pc := cell_below HCq.out (hT.1 rfl).1
          simp [go_sem, evS, g8, pc]
          exact ⟨fun h => by simpa [sput] using h0 (by simpa [did] using h), fun h => by simpa [sput] using h1 (by simpa [did] using h), fun h => by simpa [sput] using h2 (by simpa [did] using h), fun h => by simpa [sput] using h3 (by simpa [did] using h), fun h => by simpa [sput] using h4 (by simpa [did] using h), fun h => by simpa [sput] using h5 (by simpa [did] using h), fun h => by simpa [sput] using h6 (by simpa [did] using h), fun h => by simpa [sput] using h7 (by simpa [did] using h), fun h => by simpa [sput] using h8 (by simpa [did] using h), fun _ => by simp [sput], fun h => by simpa [sput] using h10 (by simpa [did] using h), fun h => by simpa [sput] using h11 (by simpa [did] using h), fun h => by simpa [sput] using h14 (by simpa [did] using h), by simpa [sput, did] using x0, fun h => by have := x1 (by simpa [did] using h); simp [did, this], fun h => by simpa [sput] using x2 (by simpa [did] using h), fun h => by have := x3 (by simpa [did] using h); simp [did, this], fun h => by have := x4 (by simpa [did] using h); simp [did, this], fun h => by have := x5 (by simpa [did] using h); simp [did, this], fun _ => by have y8 := x5 (by simp [hdep]); simp [did, hdep, y8], fun h => by have := x7 (by simpa [did] using h); simp [did, this], fun h => by have := x8 (by simpa [did] using h); simp [did, this], fun h => by have := x9 (by simpa [did] using h); simp [did, this], fun h => by have := x10 (by simpa [did] using h); simp [did, this], by simpa [did, sput, hl] using hT⟩
        · have hl : d 13 = false := by
            cases h : d 13
            · rfl
            · have := x10 h; simp [hd] at this
          rw [hl] at hT
          have g5 := h5 (by simp [hdep])
          have g9 := h9 (by simp [hdep])
          unfold OpSteps
          simp [go_sem, evS, g5, g9, hsub]
          exact ⟨fun h => by simpa [sput] using h0 (by simpa [did] using h), fun h => by simpa [sput] using h1 (by simpa [did] using h), fun h => by simpa [sput] using h2 (by simpa [did] using h), fun h => by simpa [sput] using h3 (by simpa [did] using h), fun h => by simpa [sput] using h4 (by simpa [did] using h), fun h => by simpa [sput] using h5 (by simpa [did] using h), fun h => by simpa [sput] using h6 (by simpa [did] using h), fun h => by simpa [sput] using h7 (by simpa [did] using h), fun h => by simpa [sput] using h8 (by simpa [did] using h), fun h => by simpa [sput] using h9 (by simpa [did] using h), fun _ => by simp [sput], fun h => by simpa [sput] using h11 (by simpa [did] using h), fun h => by simpa [sput] using h14 (by simpa [did] using h), by simpa [sput, did] using x0, fun h => by have := x1 (by simpa [did] using h); simp [did, this], fun h => by simpa [sput] using x2 (by simpa [did] using h), fun h => by have := x3 (by simpa [did] using h); simp [did, this], fun h => by have := x4 (by simpa [did] using h); simp [did, this], fun h => by have := x5 (by simpa [did] using h); simp [did, this], fun h => by have := x6 (by simpa [did] using h); simp [did, this], fun _ => by have y9 := x6 (by simp [hdep]); simp [did, hdep, y9], fun h => by have := x8 (by simpa [did] using h); simp [did, this], fun h => by have := x9 (by simpa [did] using h); simp [did, this], fun h => by have := x10 (by simpa [did] using h); simp [did, this], by simpa [did, sput, hl] using hT⟩
        · have hl : d 13 = false := by
            cases h : d 13
            · rfl
            · have := x10 h; simp [hd] at this
          rw [hl] at hT
          have g4 := h4 (by simp [hdep])
          have g10 := h10 (by simp [hdep])
          unfold OpSteps
          simp [go_sem, evS, g4, g10]
          exact ⟨fun h => by simpa [sput] using h0 (by simpa [did] using h), fun h => by simpa [sput] using h1 (by simpa [did] using h), fun h => by simpa [sput] using h2 (by simpa [did] using h), fun h => by simpa [sput] using h3 (by simpa [did] using h), fun h => by simpa [sput] using h4 (by simpa [did] using h), fun h => by simpa [sput] using h5 (by simpa [did] using h), fun h => by simpa [sput] using h6 (by simpa [did] using h), fun h => by simpa [sput] using h7 (by simpa [did] using h), fun h => by simpa [sput] using h8 (by simpa [did] using h), fun h => by simpa [sput] using h9 (by simpa [did] using h), fun h => by simpa [sput] using h10 (by simpa [did] using h), fun _ => by simp [sput], fun h => by simpa [sput] using h14 (by simpa [did] using h), by simpa [sput, did] using x0, fun h => by have := x1 (by simpa [did] using h); simp [did, this], fun h => by simpa [sput] using x2 (by simpa [did] using h), fun h => by have := x3 (by simpa [did] using h); simp [did, this], fun h => by have := x4 (by simpa [did] using h); simp [did, this], fun h => by have := x5 (by simpa [did] using h); simp [did, this], fun h => by have := x6 (by simpa [did] using h); simp [did, this], fun h => by have := x7 (by simpa [did] using h); simp [did, this], fun _ => by have y4 := x4 (by simp [hdep]); have y10 := x7 (by simp [hdep]); simp [did, hdep, y4, y10], fun h => by have := x9 (by simpa [did] using h); simp [did, this], fun h => by have := x10 (by simpa [did] using h); simp [did, this], by simpa [did, sput, hl] using hT⟩
        · have hl : d 13 = false := by
            cases h : d 13
            · rfl
            · have := x10 h; simp [hd] at this
          rw [hl] at hT
          have g11 := h11 (by simp [hdep])
          unfold OpSteps
          simp [go_sem, evS, g11]
          exact ⟨fun h => by simpa [sput] using h0 (by simpa [did] using h), fun h => by simpa [sput] using h1 (by simpa [did] using h), fun h => by simpa [sput] using h2 (by simpa [did] using h), fun h => by simpa [sput] using h3 (by simpa [did] using h), fun h => by simpa [sput] using h4 (by simpa [did] using h), fun h => by simpa [sput] using h5 (by simpa [did] using h), fun h => by simpa [sput] using h6 (by simpa [did] using h), fun h => by simpa [sput] using h7 (by simpa [did] using h), fun h => by simpa [sput] using h8 (by simpa [did] using h), fun h => by simpa [sput] using h9 (by simpa [did] using h), fun h => by simpa [sput] using h10 (by simpa [did] using h), fun h => by simpa [sput] using h11 (by simpa [did] using h), fun h => by simpa [sput] using h14 (by simpa [did] using h), by simpa [sput, did] using x0, fun h => by have := x1 (by simpa [did] using h); simp [did, this], fun h => by simpa [sput] using x2 (by simpa [did] using h), fun h => by have := x3 (by simpa [did] using h); simp [did, this], fun h => by have := x4 (by simpa [did] using h); simp [did, this], fun h => by have := x5 (by simpa [did] using h); simp [did, this], fun h => by have := x6 (by simpa [did] using h); simp [did, this], fun h => by have := x7 (by simpa [did] using h); simp [did, this], fun h => by have := x8 (by simpa [did] using h); simp [did, this], fun _ => by have y11 := x8 (by simp [hdep]); simp [did, hdep, y11], fun h => by have := x10 (by simpa [did] using h); simp [did, this], by rw [hd] at hT; simpa [did, sput, hl] using hT.made⟩
        · have g0 := h0 (by simp [hdep])
          have hd12 : d 12 = true := by simp [hdep]
          rw [hd12, hd] at hT
          obtain ⟨gg, v', w', ga, gb, gc⟩ := hT.app HOw.out HBl.out HBl.out.size HQb.out
          refine opSteps_append _ _ _ rfl (by simp only [evS]; exact g0) (by simp only [evS]; exact ga) gb ?_
          exact ⟨fun h => by simpa [sput] using h0 (by simpa [did] using h), fun h => by simpa [sput] using h1 (by simpa [did] using h), fun h => by simpa [sput] using h2 (by simpa [did] using h), fun h => by simpa [sput] using h3 (by simpa [did] using h), fun h => by simpa [sput] using h4 (by simpa [did] using h), fun h => by simpa [sput] using h5 (by simpa [did] using h), fun h => by simpa [sput] using h6 (by simpa [did] using h), fun h => by simpa [sput] using h7 (by simpa [did] using h), fun h => by simpa [sput] using h8 (by simpa [did] using h), fun h => by simpa [sput] using h9 (by simpa [did] using h), fun h => by simpa [sput] using h10 (by simpa [did] using h), fun h => by simpa [sput] using h11 (by simpa [did] using h), fun h => by have := x0 (by simpa [did] using h); simp [hd] at this, fun _ => by simp [did], fun h => by have := x1 (by simpa [did] using h); simp [did, this], fun h => by simpa [sput] using x2 (by simpa [did] using h), fun h => by have := x3 (by simpa [did] using h); simp [did, this], fun h => by have := x4 (by simpa [did] using h); simp [did, this], fun h => by have := x5 (by simpa [did] using h); simp [did, this], fun h => by have := x6 (by simpa [did] using h); simp [did, this], fun h => by have := x7 (by simpa [did] using h); simp [did, this], fun h => by have := x8 (by simpa [did] using h); simp [did, this], fun h => by have := x9 (by simpa [did] using h); simp [did, this], fun _ => by have y12 := x9 (by simp [hdep]); simp [did, hdep, y12], by simpa [did, sput, hd12, ga] using gc⟩
        · unfold OpSteps
          simp [go_sem, evS]
          exact ⟨fun h => by simpa [sput] using h0 (by simpa [did] using h), fun h => by simpa [sput] using h1 (by simpa [did] using h), fun h => by simpa [sput] using h2 (by simpa [did] using h), fun h => by simpa [sput] using h3 (by simpa [did] using h), fun h => by simpa [sput] using h4 (by simpa [did] using h), fun h => by simpa [sput] using h5 (by simpa [did] using h), fun h => by simpa [sput] using h6 (by simpa [did] using h), fun h => by simpa [sput] using h7 (by simpa [did] using h), fun h => by simpa [sput] using h8 (by simpa [did] using h), fun h => by simpa [sput] using h9 (by simpa [did] using h), fun h => by simpa [sput] using h10 (by simpa [did] using h), fun h => by simpa [sput] using h11 (by simpa [did] using h), fun _ => by simp [sput], fun _ => by simp [did, hdep], fun _ => by first | simp [did, hdep] | (have := x10 (by simp [hdep]); simp [did, this]), fun h => by simp [did] at h, fun h => by have := x3 (by simpa [did] using h); simp [did, this], fun h => by have := x4 (by simpa [did] using h); simp [did, this], fun h => by have := x5 (by simpa [did] using h); simp [did, this], fun h => by have := x6 (by simpa [did] using h); simp [did, this], fun h => by have := x7 (by simpa [did] using h); simp [did, this], fun h => by have := x8 (by simpa [did] using h); simp [did, this], fun h => by have := x9 (by simpa [did] using h); simp [did, this], fun h => by have := x10 (by simpa [did] using h); simp [did, this], by simpa [did, sput] using hT⟩
      intro d s W hJ hd
      obtain ⟨h0, h1, h2, h3, h4, h5, h6, h7, h8, h9, h10, h11, h14, x0, x1, x2, x3, x4, x5, x6, x7, x8, x9, x10, hT⟩ := hJ
      have hs7 : s 8 = s 50 := h14 (hd 14 (by decide))
      have hA := hT.2 (hd 13 (by decide))
      clear h0 h1 h2 h3 h4 h5 h6 h7 h8 h9 h10 h11 h14 x0 x1 x2 x3 x4 x5 x6 x7 x8 x9 x10 hT hd
      obtain ⟨hown, hbl⟩ := hA
      have HOw2 := Lib.hid (show W.ownsRow w1.heap.size 49 2 (s 50) (q + 1) (prs C (q + 1)) by have h9 := hown; rw [HPl.out] at h9; rw [HPs.out]; exact h9)
      have HBl2 := Lib.hid hbl
      clear hown hbl
      simp [setAll, hs7]
      clear hs7
      generalize s 37 = s37
      generalize s 38 = s38
      generalize s 39 = s39
      generalize s 40 = s40
      generalize s 41 = s41
      generalize s 42 = s42
      generalize s 43 = s43
      generalize s 44 = s44
      generalize s 45 = s45
      generalize s 46 = s46
      generalize s 47 = s47
      generalize s 48 = s48
      generalize s 49 = s49
      generalize s 50 = s50 at *
      go_wp2_with fail
      go_roundw
      case rel => exact ⟨q + 1, by omega, by go_num, HOw2.out, HBl2.out⟩
      case measure => simp [intOf]; omega
    · obtain rfl : q = m := by omega
      have hqc : ¬ (q : Int) < (q : Int) := by omega
      obtain ⟨A9, c9, rfl, hrow⟩ := ownsRow_row HOw.out
      have HRw := Lib.hid hrow
      clear hrow
      go_wp2_with fail
      go_ret
      exact ⟨A9, c9, rfl, HRw.out, HB1.out.trans (HBl.out.mono HB1.out.size)⟩
end Go.Proofs.Ytcdhpoikppfjkaa
