/-
Trsv: the document's Solve, kind 1. Conditions: as each says.
-/
import Derived.Test.YtcdhpoikppfjkaaWaat
set_option linter.unusedVariables false
set_option linter.unusedSimpArgs false
set_option linter.unnecessarySimpa false
namespace Go.Proofs.Ytcdhpoikppfjkaa
open Go.RowKit
attribute [local go_sem ↓] Go.wp_at_zero Go.wp_at_succ

set_option maxRecDepth 100000 in
set_option maxHeartbeats 4000000 in
theorem rtsolve1 (R gT N cT : Nat) (T : List Nat) (a : Addr) (c : Nat) (l : List Nat) (E : Nat → Nat → Nat) (F : Nat → Nat) (w : World) (hT : Row w (some ⟨gT, 0, none⟩) (f64s T)) (hTl : T.length = N) (hN : R * R = N) (hNb : N < 1048576) (hgT : N ≠ 0 → gT < w.heap.size) (hRb : R ≤ 1000) (hWT : Wds T) (hA : Row w (some a) (f64s l)) (hl : l.length = R) (hW : Wds l) (hS : TrS 1 R (trV 1 (fun i k => T.getD (i * R + k) 0)) (fun p => l.getD p 0) E F) (hz : trHZ 1 (fun i k => T.getD (i * R + k) 0) R = false) :
    Calls Try.prog 23 #[.int .i64 1, tbl R R gT N cT, .slice (some a) R c] w (RtSd R F w) := by
  obtain ⟨i0, hi, hz0, hz1, hz2⟩ := fi0
  have HAt := Lib.hid (fun i k (hi : i < R) (hk : k < R) W (h : Row W (some ⟨gT, 0, none⟩) (f64s T)) => trat_any R R gT N cT T i k W h hTl hNb (by rw [← hN]; exact tab_lt hi hk))
  have Hf := Lib.hid (fun i k => trV_lt (kd := 1) (f := fun i k => T.getD (i * R + k) 0) (i := i) (k := k) (fun i k => tr_wds hWT _))
  have HPut := Lib.hid (fun g (Z Z' : Nat → Nat) wr W q r z (h : RtW w R gT N cT T g Z wr) (hq : q < R) (hb : Below wr.heap.size wr W) (hr : Is r z) (hZ : ∀ p, p < R → (if p = q then z else Z p) = Z' p) => RtW.put h hgT hTl hq hb hr hZ)
  have HS := Lib.hid hS
  have HZr := Lib.hid hz
  have HA := Lib.hid hA
  have Hl := Lib.hid hl
  have HT := Lib.hid hT
  have HWl := Lib.hid hW
  obtain ⟨f, hf⟩ : ∃ f : Nat → Nat → Nat, f = fun i k => T.getD (i * R + k) 0 := ⟨_, rfl⟩
  have HfE := Lib.hid (fun i k => congrFun (congrFun hf i) k)
  rw [← hf] at Hf HZr HS
  clear hT hgT hTl hN hNb hWT hA hW hz hf hS
  unfold tbl at *
  go_enter Try.func23, Try.ntmps23
  have HZ0 := Lib.hid (Blk.new w 31 #[.int .i64 R, .int .i64 R, .slice (some ⟨gT, 0, none⟩) N cT])
  obtain ⟨t0, t1, t2⟩ := cells3v HZ0.out
  go_wp2_with (at_builtin; refine wpList_append_own _ rfl _ _ 22 rfl (w.heap.size + 1) 43 i0 (.float .f64 0) 1 8 Try.underlying22 hi hz0 hz1 hz2 rfl (by decide) _ _ _ rfl (own_empty_ _ _ (by simp)) a R c (f64s l) rfl (by simp [f64s, hl]) ?c1 (one_cells l) ?c3 ?c4 ?c5 ?_)
  case c1 => exact row_add (HA.out.below (((Below.refl _ _).alloc (Nat.le_refl _) _).alloc (by simp) _))
  case c3 => unfold maxLen; omega
  case c4 => omega
  case c5 => simp
  intro v' w' hown hgrow hne
  obtain ⟨g, c', rfl, hg, hc, hm, ho⟩ := own_of hown hne hl.symm
  have hO : Only (w.heap.size + 1) ((w.alloc (.cells #[.int .i64 R, .int .i64 R, .slice (some ⟨gT, 0, none⟩) N cT] 31)).alloc (.cells #[] 43)) w' := hgrow
  have HB := Lib.hid ((((Below.refl w.heap.size w).alloc (Nat.le_refl _) (.cells #[.int .i64 R, .int .i64 R, .slice (some ⟨gT, 0, none⟩) N cT] 31)).alloc (by simp) (.cells #[] 43)).grown hgrow (by simp; omega) (fun k hk => by simp [Value.ownBlock] at hk; omega))
  have HZ := Lib.hid (hO.blk (by omega) ((Blk.new w 31 #[.int .i64 R, .int .i64 R, .slice (some ⟨gT, 0, none⟩) N cT]).alloc (.cells #[] 43)))
  have HW0 := Lib.hid (show RtW w R gT N cT T g (fun p => l.getD p 0) w' from ⟨l, ⟨hl, fun p hp => Is.refl (tr_wds HWl.out p)⟩, ho, HT.out.below HB.out, HZ.out, HB.out, hg⟩)
  clear ho hgrow hown hO hl hg hc hm hne t0 t1 t2 HZ0 HB HZ HA HT HWl Hl
  go_wp2_with fail
  go_loopw [10] (fun x wr => ∃ i : Nat, i ≤ R ∧ x = .int .i64 (i : Int) ∧ Hid (trHZ 1 f i = false ∧ RtW w R gT N cT T g (fun p => l.getD p 0) wr)) (fun x _ => R - (intOf x).toNat)
  case atStart => exact ⟨0, Nat.zero_le _, rfl, Lib.hid ⟨rfl, HW0.out⟩⟩
  case round =>
    obtain ⟨i, hi1, rfl, HH⟩ := hrel
    by_cases hlt : i < R
    · have har : (i : Int) < (R : Int) := by omega
      have ha1 : i + 1 ≤ 1048576 := by omega
      have HF := Lib.hid (trHZ_step (kd := 1) (f := f) HH.out.1 (by unfold trV; simp [trZ0_one]))
      go_wp2_with fail
      go_roundw
      case rel => exact ⟨i + 1, by omega, by go_num, Lib.hid ⟨HF.out, HH.out.2⟩⟩
      case measure => simp [intOf] <;> omega
    · obtain rfl : R = i := by omega
      have hqc : ¬ (R : Int) < (R : Int) := by omega
      have HW1 := Lib.hid HH.out.2
      clear HH hqc
      have hqc : ¬ (R : Int) < (R : Int) := by omega
      go_wp2_with fail
      go_loopw [11] (fun x wr => ∃ i : Nat, i ≤ R ∧ x = .int .i64 (i : Int) ∧ Hid (RtW w R gT N cT T g (fun p => if decide (p < i) then F p else E p 0) wr)) (fun x _ => R - (intOf x).toNat)
      case atStart => exact ⟨0, Nat.zero_le _, rfl, Lib.hid (HW1.out.congr fun p hp => by show _ = (if decide (p < 0) = true then F p else E p 0); rw [if_neg (by simp), HS.out.zero p hp])⟩
      case round =>
        obtain ⟨i, hiR, rfl, HH⟩ := hrel
        by_cases hi : i < R
        · have har : (i : Int) < (R : Int) := by omega
          have ha1 : i + 1 ≤ 1048576 := by omega
          go_wp2_with fail
          go_loopw [12] (fun x wr => ∃ k : Nat, k ≤ i ∧ x = .int .i64 (k : Int) ∧ Hid (RtW w R gT N cT T g (trR E F (fun p => decide (p < i)) i k) wr)) (fun x _ => i - (intOf x).toNat)
          case atStart => exact ⟨0, by omega, rfl, Lib.hid (HH.out.congr fun p hp => (trR_zero E F (fun p => decide (p < i)) i p).symm)⟩
          case round =>
            obtain ⟨k, hki, rfl, HH⟩ := hrel
            by_cases hlt2 : k < i
            · have hk : k < R := by omega
              have har2 : (k : Int) < (i : Int) := by omega
              have ha2 : k + 1 ≤ 1048576 := by omega
              have HZn := Lib.hid (fun p (hp : p < R) => trR_step HS.out (D := (fun p => decide (p < i))) (i := i) (t := k) (k := k) hi (by show k < (if (1 = 1 ∨ 1 = 4) then i else R - 1 - i); simpa using hlt2) rfl (by simp) (by simpa using hlt2) p hp)
              have HVe := Lib.hid (show trV 1 f i k = f i k from by unfold trV; simp <;> omega)
              obtain ⟨y, hy, hyO, hyT, hyZ, hyB, hyg⟩ := HH.out
              have hil : i < y.length := by rw [hy.1]; exact hi
              have HCi0 := hyO.get _ hil
              rw [← getD_of_lt hil] at HCi0
              have HFz := Lib.hid (hyO.frozen i)
              have hlt0 : g < wr.heap.size := block_lt HCi0
              have hkl : k < y.length := by rw [hy.1]; exact hk
              have HCk0 := hyO.get _ hkl
              rw [← getD_of_lt hkl] at HCk0
              have HDone := Lib.hid (fun r W (hb : Below wr.heap.size wr W) (p0 : ∃ p, Comes .mul (trV 1 f i k) (y.getD k 0) p ∧ Comes .sub (y.getD i 0) p r) => HPut.out g _ _ wr W i r _ HH.out hi hb (by obtain ⟨p, h1, h2⟩ := p0; exact h2.is_ (hy.2 i hi) (h1.is_ (Is.refl (Hf.out i k)) (hy.2 k hk))) HZn.out)
              have HAv := Lib.hid (HAt.out i k hi hk)
              rw [← HfE.out i k] at HAv
              have hvv : trV 1 f i k = f i k := HVe.out
              rw [hvv] at HDone
              obtain ⟨v, hv⟩ : ∃ v, f i k = v := ⟨_, rfl⟩
              rw [hv] at HAv HDone
              obtain ⟨yi, hyi⟩ : ∃ z, y.getD i 0 = z := ⟨_, rfl⟩
              rw [hyi] at HCi0 HDone
              obtain ⟨yk, hyk⟩ : ∃ z, y.getD k 0 = z := ⟨_, rfl⟩
              rw [hyk] at HCk0 HDone
              have HCk := Lib.hid HCk0
              have bk : k < R := hk
              have HCi := Lib.hid HCi0
              have HTr := Lib.hid hyT
              have HZw := Lib.hid hyZ
              have bi : i < R := hi
              obtain ⟨t0, t1, t2⟩ := cells3v hyZ
              clear hy hyO hyT hyZ hyB hyg hil HCi0 hvv hv hyi HZn HVe hkl HCk0 hyk
              go_wp2_with fail
              clear t0 t1 t2
              refine wp_region_inv [55, 56, 57, 58, 59, 60, 61, 62, 63, 64, 65, 66, 67, 68, 69, 70] (fun d s W => (d 0 = true → s 55 = .slice (some ⟨g, 0, none⟩) R c') ∧ (d 1 = true → s 56 = .int .i64 (i : Int)) ∧ (d 2 = true → s 57 = .slice (some ⟨g, 0, none⟩) R c') ∧ (d 3 = true → s 58 = .int .i64 (i : Int)) ∧ (d 4 = true → s 59 = .pointer (some ⟨g, i, none⟩)) ∧ (d 5 = true → s 60 = .float .f64 yi) ∧ (d 6 = true → s 61 = .agg #[.int .i64 (R : Int), .int .i64 (R : Int), .slice (some ⟨gT, 0, none⟩) N cT]) ∧ (d 7 = true → s 62 = .int .i64 (i : Int)) ∧ (d 8 = true → s 63 = .int .i64 (k : Int)) ∧ (d 9 = true → s 64 = .float .f64 v) ∧ (d 10 = true → s 65 = .slice (some ⟨g, 0, none⟩) R c') ∧ (d 11 = true → s 66 = .int .i64 (k : Int)) ∧ (d 12 = true → s 67 = .pointer (some ⟨g, k, none⟩)) ∧ (d 13 = true → s 68 = .float .f64 yk) ∧ (d 14 = true → ∃ r, s 69 = .float .f64 r ∧ (fun r => ∃ p, Comes .mul v yk p ∧ Comes .sub yi p r) r) ∧ (d 15 = true → s 70 = .pointer (some ⟨g, i, none⟩)) ∧ (d 4 = true → d 2 = true ∧ d 3 = true) ∧ (d 5 = true → d 2 = true ∧ d 3 = true ∧ d 4 = true) ∧ (d 9 = true → d 6 = true ∧ d 7 = true ∧ d 8 = true) ∧ (d 12 = true → d 10 = true ∧ d 11 = true) ∧ (d 13 = true → d 10 = true ∧ d 11 = true ∧ d 12 = true) ∧ (d 14 = true → d 2 = true ∧ d 3 = true ∧ d 4 = true ∧ d 5 = true ∧ d 6 = true ∧ d 7 = true ∧ d 8 = true ∧ d 9 = true ∧ d 10 = true ∧ d 11 = true ∧ d 12 = true ∧ d 13 = true) ∧ (d 15 = true → d 0 = true ∧ d 1 = true) ∧ (d 16 = true → d 0 = true ∧ d 1 = true ∧ d 2 = true ∧ d 3 = true ∧ d 4 = true ∧ d 5 = true ∧ d 6 = true ∧ d 7 = true ∧ d 8 = true ∧ d 9 = true ∧ d 10 = true ∧ d 11 = true ∧ d 12 = true ∧ d 13 = true ∧ d 14 = true ∧ d 15 = true) ∧ ((d 16 = false → Below wr.heap.size wr W) ∧ (d 16 = true → StoredR g i (fun r => ∃ p, Comes .mul v yk p ∧ Comes .sub yi p r) wr W)))
                rfl (by kernel_rfl) ?_ ?_ ?_
              · exact ⟨by simp, by simp, by simp, by simp, by simp, by simp, by simp, by simp, by simp, by simp, by simp, by simp, by simp, by simp, by simp, by simp, by simp, by simp, by simp, by simp, by simp, by simp, by simp, by simp, ⟨fun _ => (Below.refl _ _).drew, fun h => by simp at h⟩⟩
              · refine ⟨?_, ?_, ?_, ?_, ?_, ?_, ?_, ?_, ?_, ?_, ?_, ?_, ?_, ?_, ?_, ?_, ?_, trivial⟩
                all_goals
                  intro d s W hJ hfr hd hdep
                  simp only [List.mem_cons, forall_eq_or_imp, List.not_mem_nil, false_implies, implies_true, and_true, Region.binds] at hdep
                  have f4 := hfr 4 (by decide)
                  have f9 := hfr 9 (by decide)
                  have f11 := hfr 11 (by decide)
                  have f12 := hfr 12 (by decide)
                  simp at f4 f9 f11 f12 hdep
                  obtain ⟨h0, h1, h2, h3, h4, h5, h6, h7, h8, h9, h10, h11, h12, h13, h14, h15, x0, x1, x2, x3, x4, x5, x6, x7, hT⟩ := hJ
                · as_aux_lemma =>
                    have hl : d 16 = false := by
                      cases h : d 16
                      · rfl
                      · have := x7 h; simp [hd] at this
                    replace hT := hT.1 hl
                    unfold OpSteps
                    simp [go_sem, evS, f9]
                    exact ⟨fun _ => by simp [sput], fun h => by simpa [sput] using h1 (by simpa [did] using h), fun h => by simpa [sput] using h2 (by simpa [did] using h), fun h => by simpa [sput] using h3 (by simpa [did] using h), fun h => by simpa [sput] using h4 (by simpa [did] using h), fun h => by simpa [sput] using h5 (by simpa [did] using h), fun h => by simpa [sput] using h6 (by simpa [did] using h), fun h => by simpa [sput] using h7 (by simpa [did] using h), fun h => by simpa [sput] using h8 (by simpa [did] using h), fun h => by simpa [sput] using h9 (by simpa [did] using h), fun h => by simpa [sput] using h10 (by simpa [did] using h), fun h => by simpa [sput] using h11 (by simpa [did] using h), fun h => by simpa [sput] using h12 (by simpa [did] using h), fun h => by simpa [sput] using h13 (by simpa [did] using h), fun h => by simpa [sput] using h14 (by simpa [did] using h), fun h => by simpa [sput] using h15 (by simpa [did] using h), fun h => by have := x0 (by simpa [did] using h); simp [did, this], fun h => by have := x1 (by simpa [did] using h); simp [did, this], fun h => by have := x2 (by simpa [did] using h); simp [did, this], fun h => by have := x3 (by simpa [did] using h); simp [did, this], fun h => by have := x4 (by simpa [did] using h); simp [did, this], fun h => by have := x5 (by simpa [did] using h); simp [did, this], fun h => by have := x6 (by simpa [did] using h); simp [did, this], fun h => by have := x7 (by simpa [did] using h); simp [did, this], ⟨fun _ => hT, fun h => by simp [did, hl] at h⟩⟩
                · as_aux_lemma =>
                    have hl : d 16 = false := by
                      cases h : d 16
                      · rfl
                      · have := x7 h; simp [hd] at this
                    replace hT := hT.1 hl
                    unfold OpSteps
                    simp [go_sem, evS, f11]
                    exact ⟨fun h => by simpa [sput] using h0 (by simpa [did] using h), fun _ => by simp [sput], fun h => by simpa [sput] using h2 (by simpa [did] using h), fun h => by simpa [sput] using h3 (by simpa [did] using h), fun h => by simpa [sput] using h4 (by simpa [did] using h), fun h => by simpa [sput] using h5 (by simpa [did] using h), fun h => by simpa [sput] using h6 (by simpa [did] using h), fun h => by simpa [sput] using h7 (by simpa [did] using h), fun h => by simpa [sput] using h8 (by simpa [did] using h), fun h => by simpa [sput] using h9 (by simpa [did] using h), fun h => by simpa [sput] using h10 (by simpa [did] using h), fun h => by simpa [sput] using h11 (by simpa [did] using h), fun h => by simpa [sput] using h12 (by simpa [did] using h), fun h => by simpa [sput] using h13 (by simpa [did] using h), fun h => by simpa [sput] using h14 (by simpa [did] using h), fun h => by simpa [sput] using h15 (by simpa [did] using h), fun h => by have := x0 (by simpa [did] using h); simp [did, this], fun h => by have := x1 (by simpa [did] using h); simp [did, this], fun h => by have := x2 (by simpa [did] using h); simp [did, this], fun h => by have := x3 (by simpa [did] using h); simp [did, this], fun h => by have := x4 (by simpa [did] using h); simp [did, this], fun h => by have := x5 (by simpa [did] using h); simp [did, this], fun h => by have := x6 (by simpa [did] using h); simp [did, this], fun h => by have := x7 (by simpa [did] using h); simp [did, this], ⟨fun _ => hT, fun h => by simp [did, hl] at h⟩⟩
                · as_aux_lemma =>
                    have hl : d 16 = false := by
                      cases h : d 16
                      · rfl
                      · have := x7 h; simp [hd] at this
                    replace hT := hT.1 hl
                    unfold OpSteps
                    simp [go_sem, evS, f9]
                    exact ⟨fun h => by simpa [sput] using h0 (by simpa [did] using h), fun h => by simpa [sput] using h1 (by simpa [did] using h), fun _ => by simp [sput], fun h => by simpa [sput] using h3 (by simpa [did] using h), fun h => by simpa [sput] using h4 (by simpa [did] using h), fun h => by simpa [sput] using h5 (by simpa [did] using h), fun h => by simpa [sput] using h6 (by simpa [did] using h), fun h => by simpa [sput] using h7 (by simpa [did] using h), fun h => by simpa [sput] using h8 (by simpa [did] using h), fun h => by simpa [sput] using h9 (by simpa [did] using h), fun h => by simpa [sput] using h10 (by simpa [did] using h), fun h => by simpa [sput] using h11 (by simpa [did] using h), fun h => by simpa [sput] using h12 (by simpa [did] using h), fun h => by simpa [sput] using h13 (by simpa [did] using h), fun h => by simpa [sput] using h14 (by simpa [did] using h), fun h => by simpa [sput] using h15 (by simpa [did] using h), fun h => by have := x0 (by simpa [did] using h); simp [did, this], fun h => by have := x1 (by simpa [did] using h); simp [did, this], fun h => by have := x2 (by simpa [did] using h); simp [did, this], fun h => by have := x3 (by simpa [did] using h); simp [did, this], fun h => by have := x4 (by simpa [did] using h); simp [did, this], fun h => by have := x5 (by simpa [did] using h); simp [did, this], fun h => by have := x6 (by simpa [did] using h); simp [did, this], fun h => by have := x7 (by simpa [did] using h); simp [did, this], ⟨fun _ => hT, fun h => by simp [did, hl] at h⟩⟩
                · as_aux_lemma =>
                    have hl : d 16 = false := by
                      cases h : d 16
                      · rfl
                      · have := x7 h; simp [hd] at this
                    replace hT := hT.1 hl
                    unfold OpSteps
                    simp [go_sem, evS, f11]
                    exact ⟨fun h => by simpa [sput] using h0 (by simpa [did] using h), fun h => by simpa [sput] using h1 (by simpa [did] using h), fun h => by simpa [sput] using h2 (by simpa [did] using h), fun _ => by simp [sput], fun h => by simpa [sput] using h4 (by simpa [did] using h), fun h => by simpa [sput] using h5 (by simpa [did] using h), fun h => by simpa [sput] using h6 (by simpa [did] using h), fun h => by simpa [sput] using h7 (by simpa [did] using h), fun h => by simpa [sput] using h8 (by simpa [did] using h), fun h => by simpa [sput] using h9 (by simpa [did] using h), fun h => by simpa [sput] using h10 (by simpa [did] using h), fun h => by simpa [sput] using h11 (by simpa [did] using h), fun h => by simpa [sput] using h12 (by simpa [did] using h), fun h => by simpa [sput] using h13 (by simpa [did] using h), fun h => by simpa [sput] using h14 (by simpa [did] using h), fun h => by simpa [sput] using h15 (by simpa [did] using h), fun h => by have := x0 (by simpa [did] using h); simp [did, this], fun h => by have := x1 (by simpa [did] using h); simp [did, this], fun h => by have := x2 (by simpa [did] using h); simp [did, this], fun h => by have := x3 (by simpa [did] using h); simp [did, this], fun h => by have := x4 (by simpa [did] using h); simp [did, this], fun h => by have := x5 (by simpa [did] using h); simp [did, this], fun h => by have := x6 (by simpa [did] using h); simp [did, this], fun h => by have := x7 (by simpa [did] using h); simp [did, this], ⟨fun _ => hT, fun h => by simp [did, hl] at h⟩⟩
                · as_aux_lemma =>
                    have hl : d 16 = false := by
                      cases h : d 16
                      · rfl
                      · have := x7 h; simp [hd] at this
                    replace hT := hT.1 hl
                    have g2 := h2 (by simp [hdep])
                    have g3 := h3 (by simp [hdep])
                    unfold OpSteps
                    simp [go_sem, evS, g2, g3, bi, bk]
                    exact ⟨fun h => by simpa [sput] using h0 (by simpa [did] using h), fun h => by simpa [sput] using h1 (by simpa [did] using h), fun h => by simpa [sput] using h2 (by simpa [did] using h), fun h => by simpa [sput] using h3 (by simpa [did] using h), fun _ => by simp [sput], fun h => by simpa [sput] using h5 (by simpa [did] using h), fun h => by simpa [sput] using h6 (by simpa [did] using h), fun h => by simpa [sput] using h7 (by simpa [did] using h), fun h => by simpa [sput] using h8 (by simpa [did] using h), fun h => by simpa [sput] using h9 (by simpa [did] using h), fun h => by simpa [sput] using h10 (by simpa [did] using h), fun h => by simpa [sput] using h11 (by simpa [did] using h), fun h => by simpa [sput] using h12 (by simpa [did] using h), fun h => by simpa [sput] using h13 (by simpa [did] using h), fun h => by simpa [sput] using h14 (by simpa [did] using h), fun h => by simpa [sput] using h15 (by simpa [did] using h), fun _ => by simp [did, hdep], fun h => by have := x1 (by simpa [did] using h); simp [did, this], fun h => by have := x2 (by simpa [did] using h); simp [did, this], fun h => by have := x3 (by simpa [did] using h); simp [did, this], fun h => by have := x4 (by simpa [did] using h); simp [did, this], fun h => by have := x5 (by simpa [did] using h); simp [did, this], fun h => by have := x6 (by simpa [did] using h); simp [did, this], fun h => by have := x7 (by simpa [did] using h); simp [did, this], ⟨fun _ => hT, fun h => by simp [did, hl] at h⟩⟩
                · as_aux_lemma =>
                    have hl : d 16 = false := by
                      cases h : d 16
                      · rfl
                      · have := x7 h; simp [hd] at this
                    replace hT := hT.1 hl
                    have g4 := h4 (by simp [hdep])
                    unfold OpSteps
                    have pc := cell_below HCi.out hT
                    simp [go_sem, evS, g4, pc]
                    exact ⟨fun h => by simpa [sput] using h0 (by simpa [did] using h), fun h => by simpa [sput] using h1 (by simpa [did] using h), fun h => by simpa [sput] using h2 (by simpa [did] using h), fun h => by simpa [sput] using h3 (by simpa [did] using h), fun h => by simpa [sput] using h4 (by simpa [did] using h), fun _ => by simp [sput], fun h => by simpa [sput] using h6 (by simpa [did] using h), fun h => by simpa [sput] using h7 (by simpa [did] using h), fun h => by simpa [sput] using h8 (by simpa [did] using h), fun h => by simpa [sput] using h9 (by simpa [did] using h), fun h => by simpa [sput] using h10 (by simpa [did] using h), fun h => by simpa [sput] using h11 (by simpa [did] using h), fun h => by simpa [sput] using h12 (by simpa [did] using h), fun h => by simpa [sput] using h13 (by simpa [did] using h), fun h => by simpa [sput] using h14 (by simpa [did] using h), fun h => by simpa [sput] using h15 (by simpa [did] using h), fun h => by have := x0 (by simpa [did] using h); simp [did, this], fun _ => by have y4 := x0 (by simp [hdep]); simp [did, hdep, y4], fun h => by have := x2 (by simpa [did] using h); simp [did, this], fun h => by have := x3 (by simpa [did] using h); simp [did, this], fun h => by have := x4 (by simpa [did] using h); simp [did, this], fun h => by have := x5 (by simpa [did] using h); simp [did, this], fun h => by have := x6 (by simpa [did] using h); simp [did, this], fun h => by have := x7 (by simpa [did] using h); simp [did, this], ⟨fun _ => hT, fun h => by simp [did, hl] at h⟩⟩
                · as_aux_lemma =>
                    have hl : d 16 = false := by
                      cases h : d 16
                      · rfl
                      · have := x7 h; simp [hd] at this
                    replace hT := hT.1 hl
                    unfold OpSteps
                    obtain ⟨p0, p1, p2⟩ := cells3v (HZw.out.below hT HZw.out.lt)
                    simp [go_sem, evS, f4, p0, p1, p2]
                    exact ⟨fun h => by simpa [sput] using h0 (by simpa [did] using h), fun h => by simpa [sput] using h1 (by simpa [did] using h), fun h => by simpa [sput] using h2 (by simpa [did] using h), fun h => by simpa [sput] using h3 (by simpa [did] using h), fun h => by simpa [sput] using h4 (by simpa [did] using h), fun h => by simpa [sput] using h5 (by simpa [did] using h), fun _ => by simp [sput], fun h => by simpa [sput] using h7 (by simpa [did] using h), fun h => by simpa [sput] using h8 (by simpa [did] using h), fun h => by simpa [sput] using h9 (by simpa [did] using h), fun h => by simpa [sput] using h10 (by simpa [did] using h), fun h => by simpa [sput] using h11 (by simpa [did] using h), fun h => by simpa [sput] using h12 (by simpa [did] using h), fun h => by simpa [sput] using h13 (by simpa [did] using h), fun h => by simpa [sput] using h14 (by simpa [did] using h), fun h => by simpa [sput] using h15 (by simpa [did] using h), fun h => by have := x0 (by simpa [did] using h); simp [did, this], fun h => by have := x1 (by simpa [did] using h); simp [did, this], fun h => by have := x2 (by simpa [did] using h); simp [did, this], fun h => by have := x3 (by simpa [did] using h); simp [did, this], fun h => by have := x4 (by simpa [did] using h); simp [did, this], fun h => by have := x5 (by simpa [did] using h); simp [did, this], fun h => by have := x6 (by simpa [did] using h); simp [did, this], fun h => by have := x7 (by simpa [did] using h); simp [did, this], ⟨fun _ => hT, fun h => by simp [did, hl] at h⟩⟩
                · as_aux_lemma =>
                    have hl : d 16 = false := by
                      cases h : d 16
                      · rfl
                      · have := x7 h; simp [hd] at this
                    replace hT := hT.1 hl
                    unfold OpSteps
                    simp [go_sem, evS, f11]
                    exact ⟨fun h => by simpa [sput] using h0 (by simpa [did] using h), fun h => by simpa [sput] using h1 (by simpa [did] using h), fun h => by simpa [sput] using h2 (by simpa [did] using h), fun h => by simpa [sput] using h3 (by simpa [did] using h), fun h => by simpa [sput] using h4 (by simpa [did] using h), fun h => by simpa [sput] using h5 (by simpa [did] using h), fun h => by simpa [sput] using h6 (by simpa [did] using h), fun _ => by simp [sput], fun h => by simpa [sput] using h8 (by simpa [did] using h), fun h => by simpa [sput] using h9 (by simpa [did] using h), fun h => by simpa [sput] using h10 (by simpa [did] using h), fun h => by simpa [sput] using h11 (by simpa [did] using h), fun h => by simpa [sput] using h12 (by simpa [did] using h), fun h => by simpa [sput] using h13 (by simpa [did] using h), fun h => by simpa [sput] using h14 (by simpa [did] using h), fun h => by simpa [sput] using h15 (by simpa [did] using h), fun h => by have := x0 (by simpa [did] using h); simp [did, this], fun h => by have := x1 (by simpa [did] using h); simp [did, this], fun h => by have := x2 (by simpa [did] using h); simp [did, this], fun h => by have := x3 (by simpa [did] using h); simp [did, this], fun h => by have := x4 (by simpa [did] using h); simp [did, this], fun h => by have := x5 (by simpa [did] using h); simp [did, this], fun h => by have := x6 (by simpa [did] using h); simp [did, this], fun h => by have := x7 (by simpa [did] using h); simp [did, this], ⟨fun _ => hT, fun h => by simp [did, hl] at h⟩⟩
                · as_aux_lemma =>
                    have hl : d 16 = false := by
                      cases h : d 16
                      · rfl
                      · have := x7 h; simp [hd] at this
                    replace hT := hT.1 hl
                    unfold OpSteps
                    simp [go_sem, evS, f12]
                    exact ⟨fun h => by simpa [sput] using h0 (by simpa [did] using h), fun h => by simpa [sput] using h1 (by simpa [did] using h), fun h => by simpa [sput] using h2 (by simpa [did] using h), fun h => by simpa [sput] using h3 (by simpa [did] using h), fun h => by simpa [sput] using h4 (by simpa [did] using h), fun h => by simpa [sput] using h5 (by simpa [did] using h), fun h => by simpa [sput] using h6 (by simpa [did] using h), fun h => by simpa [sput] using h7 (by simpa [did] using h), fun _ => by simp [sput], fun h => by simpa [sput] using h9 (by simpa [did] using h), fun h => by simpa [sput] using h10 (by simpa [did] using h), fun h => by simpa [sput] using h11 (by simpa [did] using h), fun h => by simpa [sput] using h12 (by simpa [did] using h), fun h => by simpa [sput] using h13 (by simpa [did] using h), fun h => by simpa [sput] using h14 (by simpa [did] using h), fun h => by simpa [sput] using h15 (by simpa [did] using h), fun h => by have := x0 (by simpa [did] using h); simp [did, this], fun h => by have := x1 (by simpa [did] using h); simp [did, this], fun h => by have := x2 (by simpa [did] using h); simp [did, this], fun h => by have := x3 (by simpa [did] using h); simp [did, this], fun h => by have := x4 (by simpa [did] using h); simp [did, this], fun h => by have := x5 (by simpa [did] using h); simp [did, this], fun h => by have := x6 (by simpa [did] using h); simp [did, this], fun h => by have := x7 (by simpa [did] using h); simp [did, this], ⟨fun _ => hT, fun h => by simp [did, hl] at h⟩⟩
                · as_aux_lemma =>
                    have hl : d 16 = false := by
                      cases h : d 16
                      · rfl
                      · have := x7 h; simp [hd] at this
                    replace hT := hT.1 hl
                    have g6 := h6 (by simp [hdep])
                    have g7 := h7 (by simp [hdep])
                    have g8 := h8 (by simp [hdep])
                    unfold OpSteps
                    simp [go_sem, evS, g6, g7, g8]
                    refine (HAv.out W (HTr.out.below hT)).mono ?_
                    rintro e W' ⟨rfl, hb⟩
                    refine ⟨_, rfl, ?_⟩
                    exact ⟨fun h => by simpa [sput] using h0 (by simpa [did] using h), fun h => by simpa [sput] using h1 (by simpa [did] using h), fun h => by simpa [sput] using h2 (by simpa [did] using h), fun h => by simpa [sput] using h3 (by simpa [did] using h), fun h => by simpa [sput] using h4 (by simpa [did] using h), fun h => by simpa [sput] using h5 (by simpa [did] using h), fun h => by simpa [sput] using h6 (by simpa [did] using h), fun h => by simpa [sput] using h7 (by simpa [did] using h), fun h => by simpa [sput] using h8 (by simpa [did] using h), fun _ => by simp [sput], fun h => by simpa [sput] using h10 (by simpa [did] using h), fun h => by simpa [sput] using h11 (by simpa [did] using h), fun h => by simpa [sput] using h12 (by simpa [did] using h), fun h => by simpa [sput] using h13 (by simpa [did] using h), fun h => by simpa [sput] using h14 (by simpa [did] using h), fun h => by simpa [sput] using h15 (by simpa [did] using h), fun h => by have := x0 (by simpa [did] using h); simp [did, this], fun h => by have := x1 (by simpa [did] using h); simp [did, this], fun _ => by simp [did, hdep], fun h => by have := x3 (by simpa [did] using h); simp [did, this], fun h => by have := x4 (by simpa [did] using h); simp [did, this], fun h => by have := x5 (by simpa [did] using h); simp [did, this], fun h => by have := x6 (by simpa [did] using h); simp [did, this], fun h => by have := x7 (by simpa [did] using h); simp [did, this], ⟨fun _ => below_nx hT hb, fun h => by simp [did, hl] at h⟩⟩
                · as_aux_lemma =>
                    have hl : d 16 = false := by
                      cases h : d 16
                      · rfl
                      · have := x7 h; simp [hd] at this
                    replace hT := hT.1 hl
                    unfold OpSteps
                    simp [go_sem, evS, f9]
                    exact ⟨fun h => by simpa [sput] using h0 (by simpa [did] using h), fun h => by simpa [sput] using h1 (by simpa [did] using h), fun h => by simpa [sput] using h2 (by simpa [did] using h), fun h => by simpa [sput] using h3 (by simpa [did] using h), fun h => by simpa [sput] using h4 (by simpa [did] using h), fun h => by simpa [sput] using h5 (by simpa [did] using h), fun h => by simpa [sput] using h6 (by simpa [did] using h), fun h => by simpa [sput] using h7 (by simpa [did] using h), fun h => by simpa [sput] using h8 (by simpa [did] using h), fun h => by simpa [sput] using h9 (by simpa [did] using h), fun _ => by simp [sput], fun h => by simpa [sput] using h11 (by simpa [did] using h), fun h => by simpa [sput] using h12 (by simpa [did] using h), fun h => by simpa [sput] using h13 (by simpa [did] using h), fun h => by simpa [sput] using h14 (by simpa [did] using h), fun h => by simpa [sput] using h15 (by simpa [did] using h), fun h => by have := x0 (by simpa [did] using h); simp [did, this], fun h => by have := x1 (by simpa [did] using h); simp [did, this], fun h => by have := x2 (by simpa [did] using h); simp [did, this], fun h => by have := x3 (by simpa [did] using h); simp [did, this], fun h => by have := x4 (by simpa [did] using h); simp [did, this], fun h => by have := x5 (by simpa [did] using h); simp [did, this], fun h => by have := x6 (by simpa [did] using h); simp [did, this], fun h => by have := x7 (by simpa [did] using h); simp [did, this], ⟨fun _ => hT, fun h => by simp [did, hl] at h⟩⟩
                · as_aux_lemma =>
                    have hl : d 16 = false := by
                      cases h : d 16
                      · rfl
                      · have := x7 h; simp [hd] at this
                    replace hT := hT.1 hl
                    unfold OpSteps
                    simp [go_sem, evS, f12]
                    exact ⟨fun h => by simpa [sput] using h0 (by simpa [did] using h), fun h => by simpa [sput] using h1 (by simpa [did] using h), fun h => by simpa [sput] using h2 (by simpa [did] using h), fun h => by simpa [sput] using h3 (by simpa [did] using h), fun h => by simpa [sput] using h4 (by simpa [did] using h), fun h => by simpa [sput] using h5 (by simpa [did] using h), fun h => by simpa [sput] using h6 (by simpa [did] using h), fun h => by simpa [sput] using h7 (by simpa [did] using h), fun h => by simpa [sput] using h8 (by simpa [did] using h), fun h => by simpa [sput] using h9 (by simpa [did] using h), fun h => by simpa [sput] using h10 (by simpa [did] using h), fun _ => by simp [sput], fun h => by simpa [sput] using h12 (by simpa [did] using h), fun h => by simpa [sput] using h13 (by simpa [did] using h), fun h => by simpa [sput] using h14 (by simpa [did] using h), fun h => by simpa [sput] using h15 (by simpa [did] using h), fun h => by have := x0 (by simpa [did] using h); simp [did, this], fun h => by have := x1 (by simpa [did] using h); simp [did, this], fun h => by have := x2 (by simpa [did] using h); simp [did, this], fun h => by have := x3 (by simpa [did] using h); simp [did, this], fun h => by have := x4 (by simpa [did] using h); simp [did, this], fun h => by have := x5 (by simpa [did] using h); simp [did, this], fun h => by have := x6 (by simpa [did] using h); simp [did, this], fun h => by have := x7 (by simpa [did] using h); simp [did, this], ⟨fun _ => hT, fun h => by simp [did, hl] at h⟩⟩
                · as_aux_lemma =>
                    have hl : d 16 = false := by
                      cases h : d 16
                      · rfl
                      · have := x7 h; simp [hd] at this
                    replace hT := hT.1 hl
                    have g10 := h10 (by simp [hdep])
                    have g11 := h11 (by simp [hdep])
                    unfold OpSteps
                    simp [go_sem, evS, g10, g11, bi, bk]
                    exact ⟨fun h => by simpa [sput] using h0 (by simpa [did] using h), fun h => by simpa [sput] using h1 (by simpa [did] using h), fun h => by simpa [sput] using h2 (by simpa [did] using h), fun h => by simpa [sput] using h3 (by simpa [did] using h), fun h => by simpa [sput] using h4 (by simpa [did] using h), fun h => by simpa [sput] using h5 (by simpa [did] using h), fun h => by simpa [sput] using h6 (by simpa [did] using h), fun h => by simpa [sput] using h7 (by simpa [did] using h), fun h => by simpa [sput] using h8 (by simpa [did] using h), fun h => by simpa [sput] using h9 (by simpa [did] using h), fun h => by simpa [sput] using h10 (by simpa [did] using h), fun h => by simpa [sput] using h11 (by simpa [did] using h), fun _ => by simp [sput], fun h => by simpa [sput] using h13 (by simpa [did] using h), fun h => by simpa [sput] using h14 (by simpa [did] using h), fun h => by simpa [sput] using h15 (by simpa [did] using h), fun h => by have := x0 (by simpa [did] using h); simp [did, this], fun h => by have := x1 (by simpa [did] using h); simp [did, this], fun h => by have := x2 (by simpa [did] using h); simp [did, this], fun _ => by simp [did, hdep], fun h => by have := x4 (by simpa [did] using h); simp [did, this], fun h => by have := x5 (by simpa [did] using h); simp [did, this], fun h => by have := x6 (by simpa [did] using h); simp [did, this], fun h => by have := x7 (by simpa [did] using h); simp [did, this], ⟨fun _ => hT, fun h => by simp [did, hl] at h⟩⟩
                · as_aux_lemma =>
                    have hl : d 16 = false := by
                      cases h : d 16
                      · rfl
                      · have := x7 h; simp [hd] at this
                    replace hT := hT.1 hl
                    have g12 := h12 (by simp [hdep])
                    unfold OpSteps
                    have pc := cell_below HCk.out hT
                    simp [go_sem, evS, g12, pc]
                    exact ⟨fun h => by simpa [sput] using h0 (by simpa [did] using h), fun h => by simpa [sput] using h1 (by simpa [did] using h), fun h => by simpa [sput] using h2 (by simpa [did] using h), fun h => by simpa [sput] using h3 (by simpa [did] using h), fun h => by simpa [sput] using h4 (by simpa [did] using h), fun h => by simpa [sput] using h5 (by simpa [did] using h), fun h => by simpa [sput] using h6 (by simpa [did] using h), fun h => by simpa [sput] using h7 (by simpa [did] using h), fun h => by simpa [sput] using h8 (by simpa [did] using h), fun h => by simpa [sput] using h9 (by simpa [did] using h), fun h => by simpa [sput] using h10 (by simpa [did] using h), fun h => by simpa [sput] using h11 (by simpa [did] using h), fun h => by simpa [sput] using h12 (by simpa [did] using h), fun _ => by simp [sput], fun h => by simpa [sput] using h14 (by simpa [did] using h), fun h => by simpa [sput] using h15 (by simpa [did] using h), fun h => by have := x0 (by simpa [did] using h); simp [did, this], fun h => by have := x1 (by simpa [did] using h); simp [did, this], fun h => by have := x2 (by simpa [did] using h); simp [did, this], fun h => by have := x3 (by simpa [did] using h); simp [did, this], fun _ => by have y12 := x3 (by simp [hdep]); simp [did, hdep, y12], fun h => by have := x5 (by simpa [did] using h); simp [did, this], fun h => by have := x6 (by simpa [did] using h); simp [did, this], fun h => by have := x7 (by simpa [did] using h); simp [did, this], ⟨fun _ => hT, fun h => by simp [did, hl] at h⟩⟩
                · as_aux_lemma =>
                    have hl : d 16 = false := by
                      cases h : d 16
                      · rfl
                      · have := x7 h; simp [hd] at this
                    replace hT := hT.1 hl
                    have g5 := h5 (by simp [hdep])
                    have g9 := h9 (by simp [hdep])
                    have g13 := h13 (by simp [hdep])
                    unfold OpSteps
                    simp [go_sem, evS, g5, g9, g13]
                    refine (rsub9_any yi v yk W).mono ?_
                    rintro e W' ⟨r, rfl, hr, hb⟩
                    refine ⟨_, rfl, ?_⟩
                    exact ⟨fun h => by simpa [sput] using h0 (by simpa [did] using h), fun h => by simpa [sput] using h1 (by simpa [did] using h), fun h => by simpa [sput] using h2 (by simpa [did] using h), fun h => by simpa [sput] using h3 (by simpa [did] using h), fun h => by simpa [sput] using h4 (by simpa [did] using h), fun h => by simpa [sput] using h5 (by simpa [did] using h), fun h => by simpa [sput] using h6 (by simpa [did] using h), fun h => by simpa [sput] using h7 (by simpa [did] using h), fun h => by simpa [sput] using h8 (by simpa [did] using h), fun h => by simpa [sput] using h9 (by simpa [did] using h), fun h => by simpa [sput] using h10 (by simpa [did] using h), fun h => by simpa [sput] using h11 (by simpa [did] using h), fun h => by simpa [sput] using h12 (by simpa [did] using h), fun h => by simpa [sput] using h13 (by simpa [did] using h), fun _ => ⟨r, by simp [sput], hr⟩, fun h => by simpa [sput] using h15 (by simpa [did] using h), fun h => by have := x0 (by simpa [did] using h); simp [did, this], fun h => by have := x1 (by simpa [did] using h); simp [did, this], fun h => by have := x2 (by simpa [did] using h); simp [did, this], fun h => by have := x3 (by simpa [did] using h); simp [did, this], fun h => by have := x4 (by simpa [did] using h); simp [did, this], fun _ => by have y5 := x1 (by simp [hdep]); have y9 := x2 (by simp [hdep]); have y13 := x4 (by simp [hdep]); simp [did, hdep, y5, y9, y13], fun h => by have := x6 (by simpa [did] using h); simp [did, this], fun h => by have := x7 (by simpa [did] using h); simp [did, this], ⟨fun _ => below_nx hT hb, fun h => by simp [did, hl] at h⟩⟩
                · as_aux_lemma =>
                    have hl : d 16 = false := by
                      cases h : d 16
                      · rfl
                      · have := x7 h; simp [hd] at this
                    replace hT := hT.1 hl
                    have g0 := h0 (by simp [hdep])
                    have g1 := h1 (by simp [hdep])
                    unfold OpSteps
                    simp [go_sem, evS, g0, g1, bi, bk]
                    exact ⟨fun h => by simpa [sput] using h0 (by simpa [did] using h), fun h => by simpa [sput] using h1 (by simpa [did] using h), fun h => by simpa [sput] using h2 (by simpa [did] using h), fun h => by simpa [sput] using h3 (by simpa [did] using h), fun h => by simpa [sput] using h4 (by simpa [did] using h), fun h => by simpa [sput] using h5 (by simpa [did] using h), fun h => by simpa [sput] using h6 (by simpa [did] using h), fun h => by simpa [sput] using h7 (by simpa [did] using h), fun h => by simpa [sput] using h8 (by simpa [did] using h), fun h => by simpa [sput] using h9 (by simpa [did] using h), fun h => by simpa [sput] using h10 (by simpa [did] using h), fun h => by simpa [sput] using h11 (by simpa [did] using h), fun h => by simpa [sput] using h12 (by simpa [did] using h), fun h => by simpa [sput] using h13 (by simpa [did] using h), fun h => by simpa [sput] using h14 (by simpa [did] using h), fun _ => by simp [sput], fun h => by have := x0 (by simpa [did] using h); simp [did, this], fun h => by have := x1 (by simpa [did] using h); simp [did, this], fun h => by have := x2 (by simpa [did] using h); simp [did, this], fun h => by have := x3 (by simpa [did] using h); simp [did, this], fun h => by have := x4 (by simpa [did] using h); simp [did, this], fun h => by have := x5 (by simpa [did] using h); simp [did, this], fun _ => by simp [did, hdep], fun h => by have := x7 (by simpa [did] using h); simp [did, this], ⟨fun _ => hT, fun h => by simp [did, hl] at h⟩⟩
                · as_aux_lemma =>
                    have g15 := h15 (by simp [hdep])
                    have g14 := h14 (by simp [hdep])
                    unfold OpSteps
                    replace hT := hT.1 hd
                    obtain ⟨r, gr, hr⟩ := g14
                    have hfz := frz_belowr HFz.out hlt0 hT
                    have hcl := cell_below HCi.out hT
                    simp [go_sem, evS, g15, gr, hfz, hcl]
                    exact ⟨fun h => by simpa [sput] using h0 (by simpa [did] using h), fun h => by simpa [sput] using h1 (by simpa [did] using h), fun h => by simpa [sput] using h2 (by simpa [did] using h), fun h => by simpa [sput] using h3 (by simpa [did] using h), fun h => by simpa [sput] using h4 (by simpa [did] using h), fun h => by simpa [sput] using h5 (by simpa [did] using h), fun h => by simpa [sput] using h6 (by simpa [did] using h), fun h => by simpa [sput] using h7 (by simpa [did] using h), fun h => by simpa [sput] using h8 (by simpa [did] using h), fun h => by simpa [sput] using h9 (by simpa [did] using h), fun h => by simpa [sput] using h10 (by simpa [did] using h), fun h => by simpa [sput] using h11 (by simpa [did] using h), fun h => by simpa [sput] using h12 (by simpa [did] using h), fun h => by simpa [sput] using h13 (by simpa [did] using h), fun h => by simpa [sput] using h14 (by simpa [did] using h), fun h => by simpa [sput] using h15 (by simpa [did] using h), fun h => by have := x0 (by simpa [did] using h); simp [did, this], fun h => by have := x1 (by simpa [did] using h); simp [did, this], fun h => by have := x2 (by simpa [did] using h); simp [did, this], fun h => by have := x3 (by simpa [did] using h); simp [did, this], fun h => by have := x4 (by simpa [did] using h); simp [did, this], fun h => by have := x5 (by simpa [did] using h); simp [did, this], fun h => by have := x6 (by simpa [did] using h); simp [did, this], fun _ => by have y14 := x5 (by simp [hdep]); have y15 := x6 (by simp [hdep]); simp [did, hdep, y14, y15], ⟨fun h => by simp [did] at h, fun _ => ⟨W, r, hT, rfl, hr⟩⟩⟩
              intro d s W hJ hd
              obtain ⟨h0, h1, h2, h3, h4, h5, h6, h7, h8, h9, h10, h11, h12, h13, h14, h15, x0, x1, x2, x3, x4, x5, x6, x7, hT⟩ := hJ
              obtain ⟨W', r, hbw, rfl, hr⟩ := hT.2 (hd 16 (by decide))
              have HH2 := Lib.hid (HDone.out r W' hbw hr)
              clear h0 h1 h2 h3 h4 h5 h6 h7 h8 h9 h10 h11 h12 h13 h14 h15 x0 x1 x2 x3 x4 x5 x6 x7 hT hd hbw hr HDone
              simp [setAll]
              generalize s 55 = s55
              generalize s 56 = s56
              generalize s 57 = s57
              generalize s 58 = s58
              generalize s 59 = s59
              generalize s 60 = s60
              generalize s 61 = s61
              generalize s 62 = s62
              generalize s 63 = s63
              generalize s 64 = s64
              generalize s 65 = s65
              generalize s 66 = s66
              generalize s 67 = s67
              generalize s 68 = s68
              generalize s 69 = s69
              generalize s 70 = s70
              generalize W'.setCell ⟨g, i, none⟩ (.float .f64 r) = wz at *
              go_wp2_with fail
              go_roundw
              case rel => exact ⟨k + 1, by omega, by go_num, HH2⟩
              case measure => simp [intOf] <;> omega
            · obtain rfl : i = k := by omega
              have hqc : ¬ (i : Int) < (i : Int) := by omega
              have HH2 := Lib.hid (HH.out.congr (Z' := fun p => if decide (p < i + 1) then F p else E p 0) fun p hp => by
                have := trR_done HS.out (D := (fun p => decide (p < i))) (D' := fun p => decide (p < i + 1)) (i := i) hi (by simp) (fun p hp => by rw [Bool.eq_iff_iff]; simp; omega) p hp
                show _ = (if decide (p < i + 1) = true then F p else E p 0)
                rw [← this]
                by_cases e : p = i
                · subst e; rw [if_pos rfl]; rfl
                · rw [if_neg e]; rfl)
              go_wp2_with fail
              go_roundw
              case rel => exact ⟨i + 1, by omega, by go_num, HH2⟩
              case measure => simp [intOf] <;> omega
        · obtain rfl : R = i := by omega
          have hqc : ¬ (R : Int) < (R : Int) := by omega
          have HEnd := Lib.hid (HH.out.congr (Z' := F) fun p hp => by show (if decide (p < R) = true then F p else E p 0) = _; rw [if_pos (by simpa using hp)])
          go_wp2_with fail
          go_ret2
          obtain ⟨y, hy, hyO, hyT, hyZ, hyB, hyg⟩ := HEnd.out
          exact ⟨g, c', y, rfl, hy, hyO, by omega, hyB⟩

end Go.Proofs.Ytcdhpoikppfjkaa
