/-
Trsv: the document's Solve, kind 2. Conditions: as each says.
-/
import Derived.Test.YtcdhpoikppfjkaaWaat
set_option linter.unusedVariables false
set_option linter.unusedSimpArgs false
set_option linter.unnecessarySimpa false
namespace Go.Proofs.Ytcdhpoikppfjkaa
open Go.RowKit
attribute [local go_sem ↓] Go.wp_at_zero Go.wp_at_succ

set_option maxRecDepth 100000 in
set_option maxHeartbeats 4000000 in
theorem rtsolve2 (R gT N cT : Nat) (T : List Nat) (a : Addr) (c : Nat) (l : List Nat) (E : Nat → Nat → Nat) (F : Nat → Nat) (w : World) (hT : Row w (some ⟨gT, 0, none⟩) (f64s T)) (hTl : T.length = N) (hN : R * R = N) (hNb : N < 1048576) (hgT : N ≠ 0 → gT < w.heap.size) (hRb : R ≤ 1000) (hWT : Wds T) (hA : Row w (some a) (f64s l)) (hl : l.length = R) (hW : Wds l) (hS : TrS 2 R (trV 2 (fun i k => T.getD (i * R + k) 0)) (fun p => l.getD p 0) E F) (hz : trHZ 2 (fun i k => T.getD (i * R + k) 0) R = false) :
    Calls Try.prog 23 #[.int .i64 2, tbl R R gT N cT, .slice (some a) R c] w (RtSd R F w) := by
  obtain ⟨i0, hi, hz0, hz1, hz2⟩ := fi0
  have HAt := Lib.hid (fun i k (hi : i < R) (hk : k < R) W (h : Row W (some ⟨gT, 0, none⟩) (f64s T)) => trat_any R R gT N cT T i k W h hTl hNb (by rw [← hN]; exact tab_lt hi hk))
  have Hf := Lib.hid (fun i k => trV_lt (kd := 2) (f := fun i k => T.getD (i * R + k) 0) (i := i) (k := k) (fun i k => tr_wds hWT _))
  have HPut := Lib.hid (fun g (Z Z' : Nat → Nat) wr W q r z (h : RtW w R gT N cT T g Z wr) (hq : q < R) (hb : Below wr.heap.size wr W) (hr : Is r z) (hZ : ∀ p, p < R → (if p = q then z else Z p) = Z' p) => RtW.put h hgT hTl hq hb hr hZ)
  have HS := Lib.hid hS
  have HZr := Lib.hid hz
  have HA := Lib.hid hA
  have Hl := Lib.hid hl
  have HT := Lib.hid hT
  have HWl := Lib.hid hW
  obtain ⟨f, hf⟩ : ∃ f : Nat → Nat → Nat, f = fun i k => T.getD (i * R + k) 0 := ⟨_, rfl⟩
  have HfE := Lib.hid (fun i k => congrFun (congrFun hf i) k)
  rw [← hf] at Hf HZr HS
  clear hT hgT hTl hN hNb hWT hA hW hz hf hS
  unfold tbl at *
  go_enter Try.func23, Try.ntmps23
  have HZ0 := Lib.hid (Blk.new w 31 #[.int .i64 R, .int .i64 R, .slice (some ⟨gT, 0, none⟩) N cT])
  obtain ⟨t0, t1, t2⟩ := cells3v HZ0.out
  go_wp2_with (at_builtin; refine wpList_append_own _ rfl _ _ 22 rfl (w.heap.size + 1) 43 i0 (.float .f64 0) 1 8 Try.underlying22 hi hz0 hz1 hz2 rfl (by decide) _ _ _ rfl (own_empty_ _ _ (by simp)) a R c (f64s l) rfl (by simp [f64s, hl]) ?c1 (one_cells l) ?c3 ?c4 ?c5 ?_)
  case c1 => exact row_add (HA.out.below (((Below.refl _ _).alloc (Nat.le_refl _) _).alloc (by simp) _))
  case c3 => unfold maxLen; omega
  case c4 => omega
  case c5 => simp
  intro v' w' hown hgrow hne
  obtain ⟨g, c', rfl, hg, hc, hm, ho⟩ := own_of hown hne hl.symm
  have hO : Only (w.heap.size + 1) ((w.alloc (.cells #[.int .i64 R, .int .i64 R, .slice (some ⟨gT, 0, none⟩) N cT] 31)).alloc (.cells #[] 43)) w' := hgrow
  have HB := Lib.hid ((((Below.refl w.heap.size w).alloc (Nat.le_refl _) (.cells #[.int .i64 R, .int .i64 R, .slice (some ⟨gT, 0, none⟩) N cT] 31)).alloc (by simp) (.cells #[] 43)).grown hgrow (by simp; omega) (fun k hk => by simp [Value.ownBlock] at hk; omega))
  have HZ := Lib.hid (hO.blk (by omega) ((Blk.new w 31 #[.int .i64 R, .int .i64 R, .slice (some ⟨gT, 0, none⟩) N cT]).alloc (.cells #[] 43)))
  have HW0 := Lib.hid (show RtW w R gT N cT T g (fun p => l.getD p 0) w' from ⟨l, ⟨hl, fun p hp => Is.refl (tr_wds HWl.out p)⟩, ho, HT.out.below HB.out, HZ.out, HB.out, hg⟩)
  clear ho hgrow hown hO hl hg hc hm hne t0 t1 t2 HZ0 HB HZ HA HT HWl Hl
  go_wp2_with fail
  go_loopw [10] (fun x wr => ∃ i : Nat, i ≤ R ∧ x = .int .i64 (i : Int) ∧ Hid (trHZ 2 f i = false ∧ RtW w R gT N cT T g (fun p => l.getD p 0) wr)) (fun x _ => R - (intOf x).toNat)
  case atStart => exact ⟨0, Nat.zero_le _, rfl, Lib.hid ⟨rfl, HW0.out⟩⟩
  case round =>
    obtain ⟨i, hi1, rfl, HH⟩ := hrel
    by_cases hlt : i < R
    · have har : (i : Int) < (R : Int) := by omega
      have ha1 : i + 1 ≤ 1048576 := by omega
      obtain ⟨y, hy, hyO, hyT, hyZ, hyB, hyg⟩ := HH.out.2
      have HAi := Lib.hid (HAt.out i i hlt hlt wr hyT)
      have hv0 : trV 2 f i i = f i i := by unfold trV; simp
      have HT1 := Lib.hid (fun (h : trZ0 (f i i) = true) => trHZ_true (kd := 2) (f := f) (R := R) hlt (by rw [hv0]; exact h))
      have HF := Lib.hid (fun (h : trZ0 (f i i) = false) => trHZ_step (kd := 2) (f := f) HH.out.1 (by rw [hv0]; exact h))
      rw [← HfE.out i i] at HAi
      obtain ⟨v, hv⟩ : ∃ v, f i i = v := ⟨_, rfl⟩
      rw [hv] at HAi HT1 HF
      obtain ⟨t0, t1, t2⟩ := cells3v hyZ
      clear hy hyO hyT hyZ hyB hyg hv hv0
      go_wp2_with fail
      refine (HAi.out).mono ?_
      rintro e wa ⟨rfl, hb⟩
      have HW2 := Lib.hid (HH.out.2.nxt hb)
      clear hb t0 t1 t2
      obtain ⟨q, hq⟩ : ∃ q, trZ0 v = q := ⟨_, rfl⟩
      rw [hq] at HT1 HF
      unfold trZ0 at hq
      cases q
      · replace HF := Lib.hid (HF.out rfl)
        go_wp2_with fail
        go_roundw
        case rel => exact ⟨i + 1, by omega, by go_num, Lib.hid ⟨HF.out, HW2.out⟩⟩
        case measure => simp [intOf] <;> omega
      · exfalso
        have h1 := HT1.out rfl
        rw [HZr.out] at h1
        cases h1
    · obtain rfl : R = i := by omega
      have hqc : ¬ (R : Int) < (R : Int) := by omega
      have HW1 := Lib.hid HH.out.2
      clear HH hqc
      have hqc : ¬ (R : Int) < (R : Int) := by omega
      go_wp2_with fail
      go_loopw [13] (fun x wr => ∃ (m : Nat) (z : Int), m ≤ R ∧ x = .int .i64 z ∧ z = (m : Int) - 1 ∧ Hid (RtW w R gT N cT T g (fun p => if decide (m ≤ p) then F p else E p 0) wr)) (fun x _ => (intOf x + 1).toNat)
      case atStart => exact ⟨R, (R : Int) - 1, Nat.le_refl _, by first | go_num | rfl, rfl, Lib.hid (HW1.out.congr fun p hp => by show _ = (if decide (R ≤ p) = true then F p else E p 0); rw [if_neg (by simp; omega), HS.out.zero p hp])⟩
      case round =>
        obtain ⟨m, z, hm, rfl, hz, HH⟩ := hrel
        rcases m with _ | i
        · have hqm : ¬ (0 : Int) ≤ z := by omega
          clear hz
          have HEnd := Lib.hid (HH.out.congr (Z' := F) fun p hp => by show (if decide (0 ≤ p) = true then F p else E p 0) = _; simp)
          go_wp2_with fail
          go_ret2
          obtain ⟨y, hy, hyO, hyT, hyZ, hyB, hyg⟩ := HEnd.out
          exact ⟨g, c', y, rfl, hy, hyO, by omega, hyB⟩
        · obtain rfl : z = (i : Int) := by omega
          have hi : i < R := by omega
          have ha1 : i + 1 ≤ 1048576 := by omega
          have har : (0 : Int) ≤ (i : Int) := by omega
          have hd0 : decide ((0 : Int) ≤ (i : Int)) = true := by simp
          clear hz
          go_wp2_with fail
          go_loopw [14] (fun x wr => ∃ k : Nat, i ≤ k ∧ k < R ∧ x = .int .i64 (k : Int) ∧ Hid (RtW w R gT N cT T g (trR E F (fun p => decide (i + 1 ≤ p)) i (R - 1 - k)) wr)) (fun x _ => (intOf x).toNat - i)
          case atStart => exact ⟨R - 1, by omega, by omega, by first | (rw [show ((R - 1 : Nat) : Int) = (R : Int) - 1 from by omega]; go_num) | go_num, Lib.hid (HH.out.congr fun p hp => by rw [Nat.sub_self]; exact (trR_zero E F (fun p => decide (i + 1 ≤ p)) i p).symm)⟩
          case round =>
            obtain ⟨k, hik, hk, rfl, HH⟩ := hrel
            by_cases hlt2 : i < k
            · have har2 : (i : Int) < (k : Int) := by omega
              have ha2 : k + 1 ≤ 1048576 := by omega
              
              have HZn := Lib.hid (fun p (hp : p < R) => by
                have := trR_step HS.out (D := (fun p => decide (i + 1 ≤ p))) (i := i) (t := R - 1 - k) (k := k) hi (by show R - 1 - k < R - 1 - i; omega) (by show R - 1 - (R - 1 - k) = k; omega) (by simp) (by simp; omega) p hp
                rw [show R - 1 - k + 1 = R - 1 - (k - 1) from by omega] at this
                exact this)
              have HVe := Lib.hid (show trV 2 f i k = f i k from by unfold trV; simp <;> omega)
              obtain ⟨y, hy, hyO, hyT, hyZ, hyB, hyg⟩ := HH.out
              have hil : i < y.length := by rw [hy.1]; exact hi
              have HCi0 := hyO.get _ hil
              rw [← getD_of_lt hil] at HCi0
              have HFz := Lib.hid (hyO.frozen i)
              have hlt0 : g < wr.heap.size := block_lt HCi0
              have hkl : k < y.length := by rw [hy.1]; exact hk
              have HCk0 := hyO.get _ hkl
              rw [← getD_of_lt hkl] at HCk0
              have HDone := Lib.hid (fun r W (hb : Below wr.heap.size wr W) (p0 : ∃ p, Comes .mul (trV 2 f i k) (y.getD k 0) p ∧ Comes .sub (y.getD i 0) p r) => HPut.out g _ _ wr W i r _ HH.out hi hb (by obtain ⟨p, h1, h2⟩ := p0; exact h2.is_ (hy.2 i hi) (h1.is_ (Is.refl (Hf.out i k)) (hy.2 k hk))) HZn.out)
              have HAv := Lib.hid (HAt.out i k hi hk)
              rw [← HfE.out i k] at HAv
              have hvv : trV 2 f i k = f i k := HVe.out
              rw [hvv] at HDone
              obtain ⟨v, hv⟩ : ∃ v, f i k = v := ⟨_, rfl⟩
              rw [hv] at HAv HDone
              obtain ⟨yi, hyi⟩ : ∃ z, y.getD i 0 = z := ⟨_, rfl⟩
              rw [hyi] at HCi0 HDone
              obtain ⟨yk, hyk⟩ : ∃ z, y.getD k 0 = z := ⟨_, rfl⟩
              rw [hyk] at HCk0 HDone
              have HCk := Lib.hid HCk0
              have bk : k < R := hk
              have HCi := Lib.hid HCi0
              have HTr := Lib.hid hyT
              have HZw := Lib.hid hyZ
              have bi : i < R := hi
              obtain ⟨t0, t1, t2⟩ := cells3v hyZ
              clear hy hyO hyT hyZ hyB hyg hil HCi0 hvv hv hyi HZn HVe hkl HCk0 hyk
              go_wp2_with fail
              clear t0 t1 t2
              refine wp_region_inv [86, 87, 88, 89, 90, 91, 92, 93, 94, 95, 96, 97, 98, 99, 100, 101] (fun d s W => (d 0 = true → s 86 = .slice (some ⟨g, 0, none⟩) R c') ∧ (d 1 = true → s 87 = .int .i64 (i : Int)) ∧ (d 2 = true → s 88 = .slice (some ⟨g, 0, none⟩) R c') ∧ (d 3 = true → s 89 = .int .i64 (i : Int)) ∧ (d 4 = true → s 90 = .pointer (some ⟨g, i, none⟩)) ∧ (d 5 = true → s 91 = .float .f64 yi) ∧ (d 6 = true → s 92 = .agg #[.int .i64 (R : Int), .int .i64 (R : Int), .slice (some ⟨gT, 0, none⟩) N cT]) ∧ (d 7 = true → s 93 = .int .i64 (i : Int)) ∧ (d 8 = true → s 94 = .int .i64 (k : Int)) ∧ (d 9 = true → s 95 = .float .f64 v) ∧ (d 10 = true → s 96 = .slice (some ⟨g, 0, none⟩) R c') ∧ (d 11 = true → s 97 = .int .i64 (k : Int)) ∧ (d 12 = true → s 98 = .pointer (some ⟨g, k, none⟩)) ∧ (d 13 = true → s 99 = .float .f64 yk) ∧ (d 14 = true → ∃ r, s 100 = .float .f64 r ∧ (fun r => ∃ p, Comes .mul v yk p ∧ Comes .sub yi p r) r) ∧ (d 15 = true → s 101 = .pointer (some ⟨g, i, none⟩)) ∧ (d 4 = true → d 2 = true ∧ d 3 = true) ∧ (d 5 = true → d 2 = true ∧ d 3 = true ∧ d 4 = true) ∧ (d 9 = true → d 6 = true ∧ d 7 = true ∧ d 8 = true) ∧ (d 12 = true → d 10 = true ∧ d 11 = true) ∧ (d 13 = true → d 10 = true ∧ d 11 = true ∧ d 12 = true) ∧ (d 14 = true → d 2 = true ∧ d 3 = true ∧ d 4 = true ∧ d 5 = true ∧ d 6 = true ∧ d 7 = true ∧ d 8 = true ∧ d 9 = true ∧ d 10 = true ∧ d 11 = true ∧ d 12 = true ∧ d 13 = true) ∧ (d 15 = true → d 0 = true ∧ d 1 = true) ∧ (d 16 = true → d 0 = true ∧ d 1 = true ∧ d 2 = true ∧ d 3 = true ∧ d 4 = true ∧ d 5 = true ∧ d 6 = true ∧ d 7 = true ∧ d 8 = true ∧ d 9 = true ∧ d 10 = true ∧ d 11 = true ∧ d 12 = true ∧ d 13 = true ∧ d 14 = true ∧ d 15 = true) ∧ ((d 16 = false → Below wr.heap.size wr W) ∧ (d 16 = true → StoredR g i (fun r => ∃ p, Comes .mul v yk p ∧ Comes .sub yi p r) wr W)))
                rfl (by kernel_rfl) ?_ ?_ ?_
              · exact ⟨by simp, by simp, by simp, by simp, by simp, by simp, by simp, by simp, by simp, by simp, by simp, by simp, by simp, by simp, by simp, by simp, by simp, by simp, by simp, by simp, by simp, by simp, by simp, by simp, ⟨fun _ => (Below.refl _ _).drew, fun h => by simp at h⟩⟩
              · refine ⟨?_, ?_, ?_, ?_, ?_, ?_, ?_, ?_, ?_, ?_, ?_, ?_, ?_, ?_, ?_, ?_, ?_, trivial⟩
                all_goals
                  intro d s W hJ hfr hd hdep
                  simp only [List.mem_cons, forall_eq_or_imp, List.not_mem_nil, false_implies, implies_true, and_true, Region.binds] at hdep
                  have f4 := hfr 4 (by decide)
                  have f9 := hfr 9 (by decide)
                  have f13 := hfr 13 (by decide)
                  have f14 := hfr 14 (by decide)
                  simp at f4 f9 f13 f14 hdep
                  obtain ⟨h0, h1, h2, h3, h4, h5, h6, h7, h8, h9, h10, h11, h12, h13, h14, h15, x0, x1, x2, x3, x4, x5, x6, x7, hT⟩ := hJ
                · as_aux_lemma =>
                    have hl : d 16 = false := by
                      cases h : d 16
                      · rfl
                      · have := x7 h; simp [hd] at this
                    replace hT := hT.1 hl
                    unfold OpSteps
                    simp [go_sem, evS, f9]
                    exact ⟨fun _ => by simp [sput], fun h => by simpa [sput] using h1 (by simpa [did] using h), fun h => by simpa [sput] using h2 (by simpa [did] using h), fun h => by simpa [sput] using h3 (by simpa [did] using h), fun h => by simpa [sput] using h4 (by simpa [did] using h), fun h => by simpa [sput] using h5 (by simpa [did] using h), fun h => by simpa [sput] using h6 (by simpa [did] using h), fun h => by simpa [sput] using h7 (by simpa [did] using h), fun h => by simpa [sput] using h8 (by simpa [did] using h), fun h => by simpa [sput] using h9 (by simpa [did] using h), fun h => by simpa [sput] using h10 (by simpa [did] using h), fun h => by simpa [sput] using h11 (by simpa [did] using h), fun h => by simpa [sput] using h12 (by simpa [did] using h), fun h => by simpa [sput] using h13 (by simpa [did] using h), fun h => by simpa [sput] using h14 (by simpa [did] using h), fun h => by simpa [sput] using h15 (by simpa [did] using h), fun h => by have := x0 (by simpa [did] using h); simp [did, this], fun h => by have := x1 (by simpa [did] using h); simp [did, this], fun h => by have := x2 (by simpa [did] using h); simp [did, this], fun h => by have := x3 (by simpa [did] using h); simp [did, this], fun h => by have := x4 (by simpa [did] using h); simp [did, this], fun h => by have := x5 (by simpa [did] using h); simp [did, this], fun h => by have := x6 (by simpa [did] using h); simp [did, this], fun h => by have := x7 (by simpa [did] using h); simp [did, this], ⟨fun _ => hT, fun h => by simp [did, hl] at h⟩⟩
                · as_aux_lemma =>
                    have hl : d 16 = false := by
                      cases h : d 16
                      · rfl
                      · have := x7 h; simp [hd] at this
                    replace hT := hT.1 hl
                    unfold OpSteps
                    simp [go_sem, evS, f13]
                    exact ⟨fun h => by simpa [sput] using h0 (by simpa [did] using h), fun _ => by simp [sput], fun h => by simpa [sput] using h2 (by simpa [did] using h), fun h => by simpa [sput] using h3 (by simpa [did] using h), fun h => by simpa [sput] using h4 (by simpa [did] using h), fun h => by simpa [sput] using h5 (by simpa [did] using h), fun h => by simpa [sput] using h6 (by simpa [did] using h), fun h => by simpa [sput] using h7 (by simpa [did] using h), fun h => by simpa [sput] using h8 (by simpa [did] using h), fun h => by simpa [sput] using h9 (by simpa [did] using h), fun h => by simpa [sput] using h10 (by simpa [did] using h), fun h => by simpa [sput] using h11 (by simpa [did] using h), fun h => by simpa [sput] using h12 (by simpa [did] using h), fun h => by simpa [sput] using h13 (by simpa [did] using h), fun h => by simpa [sput] using h14 (by simpa [did] using h), fun h => by simpa [sput] using h15 (by simpa [did] using h), fun h => by have := x0 (by simpa [did] using h); simp [did, this], fun h => by have := x1 (by simpa [did] using h); simp [did, this], fun h => by have := x2 (by simpa [did] using h); simp [did, this], fun h => by have := x3 (by simpa [did] using h); simp [did, this], fun h => by have := x4 (by simpa [did] using h); simp [did, this], fun h => by have := x5 (by simpa [did] using h); simp [did, this], fun h => by have := x6 (by simpa [did] using h); simp [did, this], fun h => by have := x7 (by simpa [did] using h); simp [did, this], ⟨fun _ => hT, fun h => by simp [did, hl] at h⟩⟩
                · as_aux_lemma =>
                    have hl : d 16 = false := by
                      cases h : d 16
                      · rfl
                      · have := x7 h; simp [hd] at this
                    replace hT := hT.1 hl
                    unfold OpSteps
                    simp [go_sem, evS, f9]
                    exact ⟨fun h => by simpa [sput] using h0 (by simpa [did] using h), fun h => by simpa [sput] using h1 (by simpa [did] using h), fun _ => by simp [sput], fun h => by simpa [sput] using h3 (by simpa [did] using h), fun h => by simpa [sput] using h4 (by simpa [did] using h), fun h => by simpa [sput] using h5 (by simpa [did] using h), fun h => by simpa [sput] using h6 (by simpa [did] using h), fun h => by simpa [sput] using h7 (by simpa [did] using h), fun h => by simpa [sput] using h8 (by simpa [did] using h), fun h => by simpa [sput] using h9 (by simpa [did] using h), fun h => by simpa [sput] using h10 (by simpa [did] using h), fun h => by simpa [sput] using h11 (by simpa [did] using h), fun h => by simpa [sput] using h12 (by simpa [did] using h), fun h => by simpa [sput] using h13 (by simpa [did] using h), fun h => by simpa [sput] using h14 (by simpa [did] using h), fun h => by simpa [sput] using h15 (by simpa [did] using h), fun h => by have := x0 (by simpa [did] using h); simp [did, this], fun h => by have := x1 (by simpa [did] using h); simp [did, this], fun h => by have := x2 (by simpa [did] using h); simp [did, this], fun h => by have := x3 (by simpa [did] using h); simp [did, this], fun h => by have := x4 (by simpa [did] using h); simp [did, this], fun h => by have := x5 (by simpa [did] using h); simp [did, this], fun h => by have := x6 (by simpa [did] using h); simp [did, this], fun h => by have := x7 (by simpa [did] using h); simp [did, this], ⟨fun _ => hT, fun h => by simp [did, hl] at h⟩⟩
                · as_aux_lemma =>
                    have hl : d 16 = false := by
                      cases h : d 16
                      · rfl
                      · have := x7 h; simp [hd] at this
                    replace hT := hT.1 hl
                    unfold OpSteps
                    simp [go_sem, evS, f13]
                    exact ⟨fun h => by simpa [sput] using h0 (by simpa [did] using h), fun h => by simpa [sput] using h1 (by simpa [did] using h), fun h => by simpa [sput] using h2 (by simpa [did] using h), fun _ => by simp [sput], fun h => by simpa [sput] using h4 (by simpa [did] using h), fun h => by simpa [sput] using h5 (by simpa [did] using h), fun h => by simpa [sput] using h6 (by simpa [did] using h), fun h => by simpa [sput] using h7 (by simpa [did] using h), fun h => by simpa [sput] using h8 (by simpa [did] using h), fun h => by simpa [sput] using h9 (by simpa [did] using h), fun h => by simpa [sput] using h10 (by simpa [did] using h), fun h => by simpa [sput] using h11 (by simpa [did] using h), fun h => by simpa [sput] using h12 (by simpa [did] using h), fun h => by simpa [sput] using h13 (by simpa [did] using h), fun h => by simpa [sput] using h14 (by simpa [did] using h), fun h => by simpa [sput] using h15 (by simpa [did] using h), fun h => by have := x0 (by simpa [did] using h); simp [did, this], fun h => by have := x1 (by simpa [did] using h); simp [did, this], fun h => by have := x2 (by simpa [did] using h); simp [did, this], fun h => by have := x3 (by simpa [did] using h); simp [did, this], fun h => by have := x4 (by simpa [did] using h); simp [did, this], fun h => by have := x5 (by simpa [did] using h); simp [did, this], fun h => by have := x6 (by simpa [did] using h); simp [did, this], fun h => by have := x7 (by simpa [did] using h); simp [did, this], ⟨fun _ => hT, fun h => by simp [did, hl] at h⟩⟩
                · as_aux_lemma =>
                    have hl : d 16 = false := by
                      cases h : d 16
                      · rfl
                      · have := x7 h; simp [hd] at this
                    replace hT := hT.1 hl
                    have g2 := h2 (by simp [hdep])
                    have g3 := h3 (by simp [hdep])
                    unfold OpSteps
                    simp [go_sem, evS, g2, g3, bi, bk]
                    exact ⟨fun h => by simpa [sput] using h0 (by simpa [did] using h), fun h => by simpa [sput] using h1 (by simpa [did] using h), fun h => by simpa [sput] using h2 (by simpa [did] using h), fun h => by simpa [sput] using h3 (by simpa [did] using h), fun _ => by simp [sput], fun h => by simpa [sput] using h5 (by simpa [did] using h), fun h => by simpa [sput] using h6 (by simpa [did] using h), fun h => by simpa [sput] using h7 (by simpa [did] using h), fun h => by simpa [sput] using h8 (by simpa [did] using h), fun h => by simpa [sput] using h9 (by simpa [did] using h), fun h => by simpa [sput] using h10 (by simpa [did] using h), fun h => by simpa [sput] using h11 (by simpa [did] using h), fun h => by simpa [sput] using h12 (by simpa [did] using h), fun h => by simpa [sput] using h13 (by simpa [did] using h), fun h => by simpa [sput] using h14 (by simpa [did] using h), fun h => by simpa [sput] using h15 (by simpa [did] using h), fun _ => by simp [did, hdep], fun h => by have := x1 (by simpa [did] using h); simp [did, this], fun h => by have := x2 (by simpa [did] using h); simp [did, this], fun h => by have := x3 (by simpa [did] using h); simp [did, this], fun h => by have := x4 (by simpa [did] using h); simp [did, this], fun h => by have := x5 (by simpa [did] using h); simp [did, this], fun h => by have := x6 (by simpa [did] using h); simp [did, this], fun h => by have := x7 (by simpa [did] using h); simp [did, this], ⟨fun _ => hT, fun h => by simp [did, hl] at h⟩⟩
                · as_aux_lemma =>
                    have hl : d 16 = false := by
                      cases h : d 16
                      · rfl
                      · have := x7 h; simp [hd] at this
                    replace hT := hT.1 hl
                    have g4 := h4 (by simp [hdep])
                    unfold OpSteps
                    have pc := cell_below HCi.out hT
                    simp [go_sem, evS, g4, pc]
                    exact ⟨fun h => by simpa [sput] using h0 (by simpa [did] using h), fun h => by simpa [sput] using h1 (by simpa [did] using h), fun h => by simpa [sput] using h2 (by simpa [did] using h), fun h => by simpa [sput] using h3 (by simpa [did] using h), fun h => by simpa [sput] using h4 (by simpa [did] using h), fun _ => by simp [sput], fun h => by simpa [sput] using h6 (by simpa [did] using h), fun h => by simpa [sput] using h7 (by simpa [did] using h), fun h => by simpa [sput] using h8 (by simpa [did] using h), fun h => by simpa [sput] using h9 (by simpa [did] using h), fun h => by simpa [sput] using h10 (by simpa [did] using h), fun h => by simpa [sput] using h11 (by simpa [did] using h), fun h => by simpa [sput] using h12 (by simpa [did] using h), fun h => by simpa [sput] using h13 (by simpa [did] using h), fun h => by simpa [sput] using h14 (by simpa [did] using h), fun h => by simpa [sput] using h15 (by simpa [did] using h), fun h => by have := x0 (by simpa [did] using h); simp [did, this], fun _ => by have y4 := x0 (by simp [hdep]); simp [did, hdep, y4], fun h => by have := x2 (by simpa [did] using h); simp [did, this], fun h => by have := x3 (by simpa [did] using h); simp [did, this], fun h => by have := x4 (by simpa [did] using h); simp [did, this], fun h => by have := x5 (by simpa [did] using h); simp [did, this], fun h => by have := x6 (by simpa [did] using h); simp [did, this], fun h => by have := x7 (by simpa [did] using h); simp [did, this], ⟨fun _ => hT, fun h => by simp [did, hl] at h⟩⟩
                · as_aux_lemma =>
                    have hl : d 16 = false := by
                      cases h : d 16
                      · rfl
                      · have := x7 h; simp [hd] at this
                    replace hT := hT.1 hl
                    unfold OpSteps
                    obtain ⟨p0, p1, p2⟩ := cells3v (HZw.out.below hT HZw.out.lt)
                    simp [go_sem, evS, f4, p0, p1, p2]
                    exact ⟨fun h => by simpa [sput] using h0 (by simpa [did] using h), fun h => by simpa [sput] using h1 (by simpa [did] using h), fun h => by simpa [sput] using h2 (by simpa [did] using h), fun h => by simpa [sput] using h3 (by simpa [did] using h), fun h => by simpa [sput] using h4 (by simpa [did] using h), fun h => by simpa [sput] using h5 (by simpa [did] using h), fun _ => by simp [sput], fun h => by simpa [sput] using h7 (by simpa [did] using h), fun h => by simpa [sput] using h8 (by simpa [did] using h), fun h => by simpa [sput] using h9 (by simpa [did] using h), fun h => by simpa [sput] using h10 (by simpa [did] using h), fun h => by simpa [sput] using h11 (by simpa [did] using h), fun h => by simpa [sput] using h12 (by simpa [did] using h), fun h => by simpa [sput] using h13 (by simpa [did] using h), fun h => by simpa [sput] using h14 (by simpa [did] using h), fun h => by simpa [sput] using h15 (by simpa [did] using h), fun h => by have := x0 (by simpa [did] using h); simp [did, this], fun h => by have := x1 (by simpa [did] using h); simp [did, this], fun h => by have := x2 (by simpa [did] using h); simp [did, this], fun h => by have := x3 (by simpa [did] using h); simp [did, this], fun h => by have := x4 (by simpa [did] using h); simp [did, this], fun h => by have := x5 (by simpa [did] using h); simp [did, this], fun h => by have := x6 (by simpa [did] using h); simp [did, this], fun h => by have := x7 (by simpa [did] using h); simp [did, this], ⟨fun _ => hT, fun h => by simp [did, hl] at h⟩⟩
                · as_aux_lemma =>
                    have hl : d 16 = false := by
                      cases h : d 16
                      · rfl
                      · have := x7 h; simp [hd] at this
                    replace hT := hT.1 hl
                    unfold OpSteps
                    simp [go_sem, evS, f13]
                    exact ⟨fun h => by simpa [sput] using h0 (by simpa [did] using h), fun h => by simpa [sput] using h1 (by simpa [did] using h), fun h => by simpa [sput] using h2 (by simpa [did] using h), fun h => by simpa [sput] using h3 (by simpa [did] using h), fun h => by simpa [sput] using h4 (by simpa [did] using h), fun h => by simpa [sput] using h5 (by simpa [did] using h), fun h => by simpa [sput] using h6 (by simpa [did] using h), fun _ => by simp [sput], fun h => by simpa [sput] using h8 (by simpa [did] using h), fun h => by simpa [sput] using h9 (by simpa [did] using h), fun h => by simpa [sput] using h10 (by simpa [did] using h), fun h => by simpa [sput] using h11 (by simpa [did] using h), fun h => by simpa [sput] using h12 (by simpa [did] using h), fun h => by simpa [sput] using h13 (by simpa [did] using h), fun h => by simpa [sput] using h14 (by simpa [did] using h), fun h => by simpa [sput] using h15 (by simpa [did] using h), fun h => by have := x0 (by simpa [did] using h); simp [did, this], fun h => by have := x1 (by simpa [did] using h); simp [did, this], fun h => by have := x2 (by simpa [did] using h); simp [did, this], fun h => by have := x3 (by simpa [did] using h); simp [did, this], fun h => by have := x4 (by simpa [did] using h); simp [did, this], fun h => by have := x5 (by simpa [did] using h); simp [did, this], fun h => by have := x6 (by simpa [did] using h); simp [did, this], fun h => by have := x7 (by simpa [did] using h); simp [did, this], ⟨fun _ => hT, fun h => by simp [did, hl] at h⟩⟩
                · as_aux_lemma =>
                    have hl : d 16 = false := by
                      cases h : d 16
                      · rfl
                      · have := x7 h; simp [hd] at this
                    replace hT := hT.1 hl
                    unfold OpSteps
                    simp [go_sem, evS, f14]
                    exact ⟨fun h => by simpa [sput] using h0 (by simpa [did] using h), fun h => by simpa [sput] using h1 (by simpa [did] using h), fun h => by simpa [sput] using h2 (by simpa [did] using h), fun h => by simpa [sput] using h3 (by simpa [did] using h), fun h => by simpa [sput] using h4 (by simpa [did] using h), fun h => by simpa [sput] using h5 (by simpa [did] using h), fun h => by simpa [sput] using h6 (by simpa [did] using h), fun h => by simpa [sput] using h7 (by simpa [did] using h), fun _ => by simp [sput], fun h => by simpa [sput] using h9 (by simpa [did] using h), fun h => by simpa [sput] using h10 (by simpa [did] using h), fun h => by simpa [sput] using h11 (by simpa [did] using h), fun h => by simpa [sput] using h12 (by simpa [did] using h), fun h => by simpa [sput] using h13 (by simpa [did] using h), fun h => by simpa [sput] using h14 (by simpa [did] using h), fun h => by simpa [sput] using h15 (by simpa [did] using h), fun h => by have := x0 (by simpa [did] using h); simp [did, this], fun h => by have := x1 (by simpa [did] using h); simp [did, this], fun h => by have := x2 (by simpa [did] using h); simp [did, this], fun h => by have := x3 (by simpa [did] using h); simp [did, this], fun h => by have := x4 (by simpa [did] using h); simp [did, this], fun h => by have := x5 (by simpa [did] using h); simp [did, this], fun h => by have := x6 (by simpa [did] using h); simp [did, this], fun h => by have := x7 (by simpa [did] using h); simp [did, this], ⟨fun _ => hT, fun h => by simp [did, hl] at h⟩⟩
                · as_aux_lemma =>
                    have hl : d 16 = false := by
                      cases h : d 16
                      · rfl
                      · have := x7 h; simp [hd] at this
                    replace hT := hT.1 hl
                    have g6 := h6 (by simp [hdep])
                    have g7 := h7 (by simp [hdep])
                    have g8 := h8 (by simp [hdep])
                    unfold OpSteps
                    simp [go_sem, evS, g6, g7, g8]
                    refine (HAv.out W (HTr.out.below hT)).mono ?_
                    rintro e W' ⟨rfl, hb⟩
                    refine ⟨_, rfl, ?_⟩
                    exact ⟨fun h => by simpa [sput] using h0 (by simpa [did] using h), fun h => by simpa [sput] using h1 (by simpa [did] using h), fun h => by simpa [sput] using h2 (by simpa [did] using h), fun h => by simpa [sput] using h3 (by simpa [did] using h), fun h => by simpa [sput] using h4 (by simpa [did] using h), fun h => by simpa [sput] using h5 (by simpa [did] using h), fun h => by simpa [sput] using h6 (by simpa [did] using h), fun h => by simpa [sput] using h7 (by simpa [did] using h), fun h => by simpa [sput] using h8 (by simpa [did] using h), fun _ => by simp [sput], fun h => by simpa [sput] using h10 (by simpa [did] using h), fun h => by simpa [sput] using h11 (by simpa [did] using h), fun h => by simpa [sput] using h12 (by simpa [did] using h), fun h => by simpa [sput] using h13 (by simpa [did] using h), fun h => by simpa [sput] using h14 (by simpa [did] using h), fun h => by simpa [sput] using h15 (by simpa [did] using h), fun h => by have := x0 (by simpa [did] using h); simp [did, this], fun h => by have := x1 (by simpa [did] using h); simp [did, this], fun _ => by simp [did, hdep], fun h => by have := x3 (by simpa [did] using h); simp [did, this], fun h => by have := x4 (by simpa [did] using h); simp [did, this], fun h => by have := x5 (by simpa [did] using h); simp [did, this], fun h => by have := x6 (by simpa [did] using h); simp [did, this], fun h => by have := x7 (by simpa [did] using h); simp [did, this], ⟨fun _ => below_nx hT hb, fun h => by simp [did, hl] at h⟩⟩
                · as_aux_lemma =>
                    have hl : d 16 = false := by
                      cases h : d 16
                      · rfl
                      · have := x7 h; simp [hd] at this
                    replace hT := hT.1 hl
                    unfold OpSteps
                    simp [go_sem, evS, f9]
                    exact ⟨fun h => by simpa [sput] using h0 (by simpa [did] using h), fun h => by simpa [sput] using h1 (by simpa [did] using h), fun h => by simpa [sput] using h2 (by simpa [did] using h), fun h => by simpa [sput] using h3 (by simpa [did] using h), fun h => by simpa [sput] using h4 (by simpa [did] using h), fun h => by simpa [sput] using h5 (by simpa [did] using h), fun h => by simpa [sput] using h6 (by simpa [did] using h), fun h => by simpa [sput] using h7 (by simpa [did] using h), fun h => by simpa [sput] using h8 (by simpa [did] using h), fun h => by simpa [sput] using h9 (by simpa [did] using h), fun _ => by simp [sput], fun h => by simpa [sput] using h11 (by simpa [did] using h), fun h => by simpa [sput] using h12 (by simpa [did] using h), fun h => by simpa [sput] using h13 (by simpa [did] using h), fun h => by simpa [sput] using h14 (by simpa [did] using h), fun h => by simpa [sput] using h15 (by simpa [did] using h), fun h => by have := x0 (by simpa [did] using h); simp [did, this], fun h => by have := x1 (by simpa [did] using h); simp [did, this], fun h => by have := x2 (by simpa [did] using h); simp [did, this], fun h => by have := x3 (by simpa [did] using h); simp [did, this], fun h => by have := x4 (by simpa [did] using h); simp [did, this], fun h => by have := x5 (by simpa [did] using h); simp [did, this], fun h => by have := x6 (by simpa [did] using h); simp [did, this], fun h => by have := x7 (by simpa [did] using h); simp [did, this], ⟨fun _ => hT, fun h => by simp [did, hl] at h⟩⟩
                · as_aux_lemma =>
                    have hl : d 16 = false := by
                      cases h : d 16
                      · rfl
                      · have := x7 h; simp [hd] at this
                    replace hT := hT.1 hl
                    unfold OpSteps
                    simp [go_sem, evS, f14]
                    exact ⟨fun h => by simpa [sput] using h0 (by simpa [did] using h), fun h => by simpa [sput] using h1 (by simpa [did] using h), fun h => by simpa [sput] using h2 (by simpa [did] using h), fun h => by simpa [sput] using h3 (by simpa [did] using h), fun h => by simpa [sput] using h4 (by simpa [did] using h), fun h => by simpa [sput] using h5 (by simpa [did] using h), fun h => by simpa [sput] using h6 (by simpa [did] using h), fun h => by simpa [sput] using h7 (by simpa [did] using h), fun h => by simpa [sput] using h8 (by simpa [did] using h), fun h => by simpa [sput] using h9 (by simpa [did] using h), fun h => by simpa [sput] using h10 (by simpa [did] using h), fun _ => by simp [sput], fun h => by simpa [sput] using h12 (by simpa [did] using h), fun h => by simpa [sput] using h13 (by simpa [did] using h), fun h => by simpa [sput] using h14 (by simpa [did] using h), fun h => by simpa [sput] using h15 (by simpa [did] using h), fun h => by have := x0 (by simpa [did] using h); simp [did, this], fun h => by have := x1 (by simpa [did] using h); simp [did, this], fun h => by have := x2 (by simpa [did] using h); simp [did, this], fun h => by have := x3 (by simpa [did] using h); simp [did, this], fun h => by have := x4 (by simpa [did] using h); simp [did, this], fun h => by have := x5 (by simpa [did] using h); simp [did, this], fun h => by have := x6 (by simpa [did] using h); simp [did, this], fun h => by have := x7 (by simpa [did] using h); simp [did, this], ⟨fun _ => hT, fun h => by simp [did, hl] at h⟩⟩
                · as_aux_lemma =>
                    have hl : d 16 = false := by
                      cases h : d 16
                      · rfl
                      · have := x7 h; simp [hd] at this
                    replace hT := hT.1 hl
                    have g10 := h10 (by simp [hdep])
                    have g11 := h11 (by simp [hdep])
                    unfold OpSteps
                    simp [go_sem, evS, g10, g11, bi, bk]
                    exact ⟨fun h => by simpa [sput] using h0 (by simpa [did] using h), fun h => by simpa [sput] using h1 (by simpa [did] using h), fun h => by simpa [sput] using h2 (by simpa [did] using h), fun h => by simpa [sput] using h3 (by simpa [did] using h), fun h => by simpa [sput] using h4 (by simpa [did] using h), fun h => by simpa [sput] using h5 (by simpa [did] using h), fun h => by simpa [sput] using h6 (by simpa [did] using h), fun h => by simpa [sput] using h7 (by simpa [did] using h), fun h => by simpa [sput] using h8 (by simpa [did] using h), fun h => by simpa [sput] using h9 (by simpa [did] using h), fun h => by simpa [sput] using h10 (by simpa [did] using h), fun h => by simpa [sput] using h11 (by simpa [did] using h), fun _ => by simp [sput], fun h => by simpa [sput] using h13 (by simpa [did] using h), fun h => by simpa [sput] using h14 (by simpa [did] using h), fun h => by simpa [sput] using h15 (by simpa [did] using h), fun h => by have := x0 (by simpa [did] using h); simp [did, this], fun h => by have := x1 (by simpa [did] using h); simp [did, this], fun h => by have := x2 (by simpa [did] using h); simp [did, this], fun _ => by simp [did, hdep], fun h => by have := x4 (by simpa [did] using h); simp [did, this], fun h => by have := x5 (by simpa [did] using h); simp [did, this], fun h => by have := x6 (by simpa [did] using h); simp [did, this], fun h => by have := x7 (by simpa [did] using h); simp [did, this], ⟨fun _ => hT, fun h => by simp [did, hl] at h⟩⟩
                · as_aux_lemma =>
                    have hl : d 16 = false := by
                      cases h : d 16
                      · rfl
                      · have := x7 h; simp [hd] at this
                    replace hT := hT.1 hl
                    have g12 := h12 (by simp [hdep])
                    unfold OpSteps
                    have pc := cell_below HCk.out hT
                    simp [go_sem, evS, g12, pc]
                    exact ⟨fun h => by simpa [sput] using h0 (by simpa [did] using h), fun h => by simpa [sput] using h1 (by simpa [did] using h), fun h => by simpa [sput] using h2 (by simpa [did] using h), fun h => by simpa [sput] using h3 (by simpa [did] using h), fun h => by simpa [sput] using h4 (by simpa [did] using h), fun h => by simpa [sput] using h5 (by simpa [did] using h), fun h => by simpa [sput] using h6 (by simpa [did] using h), fun h => by simpa [sput] using h7 (by simpa [did] using h), fun h => by simpa [sput] using h8 (by simpa [did] using h), fun h => by simpa [sput] using h9 (by simpa [did] using h), fun h => by simpa [sput] using h10 (by simpa [did] using h), fun h => by simpa [sput] using h11 (by simpa [did] using h), fun h => by simpa [sput] using h12 (by simpa [did] using h), fun _ => by simp [sput], fun h => by simpa [sput] using h14 (by simpa [did] using h), fun h => by simpa [sput] using h15 (by simpa [did] using h), fun h => by have := x0 (by simpa [did] using h); simp [did, this], fun h => by have := x1 (by simpa [did] using h); simp [did, this], fun h => by have := x2 (by simpa [did] using h); simp [did, this], fun h => by have := x3 (by simpa [did] using h); simp [did, this], fun _ => by have y12 := x3 (by simp [hdep]); simp [did, hdep, y12], fun h => by have := x5 (by simpa [did] using h); simp [did, this], fun h => by have := x6 (by simpa [did] using h); simp [did, this], fun h => by have := x7 (by simpa [did] using h); simp [did, this], ⟨fun _ => hT, fun h => by simp [did, hl] at h⟩⟩
                · as_aux_lemma =>
                    have hl : d 16 = false := by
                      cases h : d 16
                      · rfl
                      · have := x7 h; simp [hd] at this
                    replace hT := hT.1 hl
                    have g5 := h5 (by simp [hdep])
                    have g9 := h9 (by simp [hdep])
                    have g13 := h13 (by simp [hdep])
                    unfold OpSteps
                    simp [go_sem, evS, g5, g9, g13]
                    refine (rsub9_any yi v yk W).mono ?_
                    rintro e W' ⟨r, rfl, hr, hb⟩
                    refine ⟨_, rfl, ?_⟩
                    exact ⟨fun h => by simpa [sput] using h0 (by simpa [did] using h), fun h => by simpa [sput] using h1 (by simpa [did] using h), fun h => by simpa [sput] using h2 (by simpa [did] using h), fun h => by simpa [sput] using h3 (by simpa [did] using h), fun h => by simpa [sput] using h4 (by simpa [did] using h), fun h => by simpa [sput] using h5 (by simpa [did] using h), fun h => by simpa [sput] using h6 (by simpa [did] using h), fun h => by simpa [sput] using h7 (by simpa [did] using h), fun h => by simpa [sput] using h8 (by simpa [did] using h), fun h => by simpa [sput] using h9 (by simpa [did] using h), fun h => by simpa [sput] using h10 (by simpa [did] using h), fun h => by simpa [sput] using h11 (by simpa [did] using h), fun h => by simpa [sput] using h12 (by simpa [did] using h), fun h => by simpa [sput] using h13 (by simpa [did] using h), fun _ => ⟨r, by simp [sput], hr⟩, fun h => by simpa [sput] using h15 (by simpa [did] using h), fun h => by have := x0 (by simpa [did] using h); simp [did, this], fun h => by have := x1 (by simpa [did] using h); simp [did, this], fun h => by have := x2 (by simpa [did] using h); simp [did, this], fun h => by have := x3 (by simpa [did] using h); simp [did, this], fun h => by have := x4 (by simpa [did] using h); simp [did, this], fun _ => by have y5 := x1 (by simp [hdep]); have y9 := x2 (by simp [hdep]); have y13 := x4 (by simp [hdep]); simp [did, hdep, y5, y9, y13], fun h => by have := x6 (by simpa [did] using h); simp [did, this], fun h => by have := x7 (by simpa [did] using h); simp [did, this], ⟨fun _ => below_nx hT hb, fun h => by simp [did, hl] at h⟩⟩
                · as_aux_lemma =>
                    have hl : d 16 = false := by
                      cases h : d 16
                      · rfl
                      · have := x7 h; simp [hd] at this
                    replace hT := hT.1 hl
                    have g0 := h0 (by simp [hdep])
                    have g1 := h1 (by simp [hdep])
                    unfold OpSteps
                    simp [go_sem, evS, g0, g1, bi, bk]
                    exact ⟨fun h => by simpa [sput] using h0 (by simpa [did] using h), fun h => by simpa [sput] using h1 (by simpa [did] using h), fun h => by simpa [sput] using h2 (by simpa [did] using h), fun h => by simpa [sput] using h3 (by simpa [did] using h), fun h => by simpa [sput] using h4 (by simpa [did] using h), fun h => by simpa [sput] using h5 (by simpa [did] using h), fun h => by simpa [sput] using h6 (by simpa [did] using h), fun h => by simpa [sput] using h7 (by simpa [did] using h), fun h => by simpa [sput] using h8 (by simpa [did] using h), fun h => by simpa [sput] using h9 (by simpa [did] using h), fun h => by simpa [sput] using h10 (by simpa [did] using h), fun h => by simpa [sput] using h11 (by simpa [did] using h), fun h => by simpa [sput] using h12 (by simpa [did] using h), fun h => by simpa [sput] using h13 (by simpa [did] using h), fun h => by simpa [sput] using h14 (by simpa [did] using h), fun _ => by simp [sput], fun h => by have := x0 (by simpa [did] using h); simp [did, this], fun h => by have := x1 (by simpa [did] using h); simp [did, this], fun h => by have := x2 (by simpa [did] using h); simp [did, this], fun h => by have := x3 (by simpa [did] using h); simp [did, this], fun h => by have := x4 (by simpa [did] using h); simp [did, this], fun h => by have := x5 (by simpa [did] using h); simp [did, this], fun _ => by simp [did, hdep], fun h => by have := x7 (by simpa [did] using h); simp [did, this], ⟨fun _ => hT, fun h => by simp [did, hl] at h⟩⟩
                · as_aux_lemma =>
                    have g15 := h15 (by simp [hdep])
                    have g14 := h14 (by simp [hdep])
                    unfold OpSteps
                    replace hT := hT.1 hd
                    obtain ⟨r, gr, hr⟩ := g14
                    have hfz := frz_belowr HFz.out hlt0 hT
                    have hcl := cell_below HCi.out hT
                    simp [go_sem, evS, g15, gr, hfz, hcl]
                    exact ⟨fun h => by simpa [sput] using h0 (by simpa [did] using h), fun h => by simpa [sput] using h1 (by simpa [did] using h), fun h => by simpa [sput] using h2 (by simpa [did] using h), fun h => by simpa [sput] using h3 (by simpa [did] using h), fun h => by simpa [sput] using h4 (by simpa [did] using h), fun h => by simpa [sput] using h5 (by simpa [did] using h), fun h => by simpa [sput] using h6 (by simpa [did] using h), fun h => by simpa [sput] using h7 (by simpa [did] using h), fun h => by simpa [sput] using h8 (by simpa [did] using h), fun h => by simpa [sput] using h9 (by simpa [did] using h), fun h => by simpa [sput] using h10 (by simpa [did] using h), fun h => by simpa [sput] using h11 (by simpa [did] using h), fun h => by simpa [sput] using h12 (by simpa [did] using h), fun h => by simpa [sput] using h13 (by simpa [did] using h), fun h => by simpa [sput] using h14 (by simpa [did] using h), fun h => by simpa [sput] using h15 (by simpa [did] using h), fun h => by have := x0 (by simpa [did] using h); simp [did, this], fun h => by have := x1 (by simpa [did] using h); simp [did, this], fun h => by have := x2 (by simpa [did] using h); simp [did, this], fun h => by have := x3 (by simpa [did] using h); simp [did, this], fun h => by have := x4 (by simpa [did] using h); simp [did, this], fun h => by have := x5 (by simpa [did] using h); simp [did, this], fun h => by have := x6 (by simpa [did] using h); simp [did, this], fun _ => by have y14 := x5 (by simp [hdep]); have y15 := x6 (by simp [hdep]); simp [did, hdep, y14, y15], ⟨fun h => by simp [did] at h, fun _ => ⟨W, r, hT, rfl, hr⟩⟩⟩
              intro d s W hJ hd
              obtain ⟨h0, h1, h2, h3, h4, h5, h6, h7, h8, h9, h10, h11, h12, h13, h14, h15, x0, x1, x2, x3, x4, x5, x6, x7, hT⟩ := hJ
              obtain ⟨W', r, hbw, rfl, hr⟩ := hT.2 (hd 16 (by decide))
              have HH2 := Lib.hid (HDone.out r W' hbw hr)
              clear h0 h1 h2 h3 h4 h5 h6 h7 h8 h9 h10 h11 h12 h13 h14 h15 x0 x1 x2 x3 x4 x5 x6 x7 hT hd hbw hr HDone
              simp [setAll]
              generalize s 86 = s86
              generalize s 87 = s87
              generalize s 88 = s88
              generalize s 89 = s89
              generalize s 90 = s90
              generalize s 91 = s91
              generalize s 92 = s92
              generalize s 93 = s93
              generalize s 94 = s94
              generalize s 95 = s95
              generalize s 96 = s96
              generalize s 97 = s97
              generalize s 98 = s98
              generalize s 99 = s99
              generalize s 100 = s100
              generalize s 101 = s101
              generalize W'.setCell ⟨g, i, none⟩ (.float .f64 r) = wz at *
              go_wp2_with fail
              go_roundw
              case rel => exact ⟨k - 1, by omega, by omega, by first | (rw [show ((k - 1 : Nat) : Int) = (k : Int) - 1 from by omega]; go_num) | go_num, HH2⟩
              case measure => simp [intOf] <;> omega
            · obtain rfl : i = k := by omega
              have hqc : ¬ (i : Int) < (i : Int) := by omega
              have HZn := Lib.hid (fun p (hp : p < R) => trR_done HS.out (D := (fun p => decide (i + 1 ≤ p))) (D' := fun p => decide (i ≤ p)) (i := i) hi (by simp) (fun p hp => by rw [Bool.eq_iff_iff]; simp; omega) p hp)
              have HVe := Lib.hid (show trV 2 f i i = f i i from by unfold trV; simp)
              replace HH := Lib.hid (HH.out.congr (Z' := trR E F (fun p => decide (i + 1 ≤ p)) i (trC 2 R i)) fun p hp => rfl)
              obtain ⟨y, hy, hyO, hyT, hyZ, hyB, hyg⟩ := HH.out
              have hil : i < y.length := by rw [hy.1]; exact hi
              have HCi0 := hyO.get _ hil
              rw [← getD_of_lt hil] at HCi0
              have HFz := Lib.hid (hyO.frozen i)
              have hlt0 : g < wr.heap.size := block_lt HCi0
              have HDone := Lib.hid (fun r W (hb : Below wr.heap.size wr W) (p0 : Comes .quo (y.getD i 0) (trV 2 f i i) r) => HPut.out g _ _ wr W i r _ HH.out hi hb (p0.is_ (hy.2 i hi) (Is.refl (Hf.out i i))) HZn.out)
              have HAv := Lib.hid (HAt.out i i hi hi)
              rw [← HfE.out i i] at HAv
              have hvv : trV 2 f i i = f i i := HVe.out
              rw [hvv] at HDone
              obtain ⟨v, hv⟩ : ∃ v, f i i = v := ⟨_, rfl⟩
              rw [hv] at HAv HDone
              obtain ⟨yi, hyi⟩ : ∃ z, y.getD i 0 = z := ⟨_, rfl⟩
              rw [hyi] at HCi0 HDone
              have HCi := Lib.hid HCi0
              have HTr := Lib.hid hyT
              have HZw := Lib.hid hyZ
              have bi : i < R := hi
              obtain ⟨t0, t1, t2⟩ := cells3v hyZ
              clear hy hyO hyT hyZ hyB hyg hil HCi0 hvv hv hyi HZn HVe
              go_wp2_with fail
              clear t0 t1 t2
              refine wp_region_inv [102, 103, 104, 105, 106, 107, 108, 109, 110, 111, 112, 113] (fun d s W => (d 0 = true → s 102 = .slice (some ⟨g, 0, none⟩) R c') ∧ (d 1 = true → s 103 = .int .i64 (i : Int)) ∧ (d 2 = true → s 104 = .slice (some ⟨g, 0, none⟩) R c') ∧ (d 3 = true → s 105 = .int .i64 (i : Int)) ∧ (d 4 = true → s 106 = .pointer (some ⟨g, i, none⟩)) ∧ (d 5 = true → s 107 = .float .f64 yi) ∧ (d 6 = true → s 108 = .agg #[.int .i64 (R : Int), .int .i64 (R : Int), .slice (some ⟨gT, 0, none⟩) N cT]) ∧ (d 7 = true → s 109 = .int .i64 (i : Int)) ∧ (d 8 = true → s 110 = .int .i64 (i : Int)) ∧ (d 9 = true → s 111 = .float .f64 v) ∧ (d 10 = true → ∃ r, s 112 = .float .f64 r ∧ (fun r => Comes .quo yi v r) r) ∧ (d 11 = true → s 113 = .pointer (some ⟨g, i, none⟩)) ∧ (d 4 = true → d 2 = true ∧ d 3 = true) ∧ (d 5 = true → d 2 = true ∧ d 3 = true ∧ d 4 = true) ∧ (d 9 = true → d 6 = true ∧ d 7 = true ∧ d 8 = true) ∧ (d 10 = true → d 2 = true ∧ d 3 = true ∧ d 4 = true ∧ d 5 = true ∧ d 6 = true ∧ d 7 = true ∧ d 8 = true ∧ d 9 = true) ∧ (d 11 = true → d 0 = true ∧ d 1 = true) ∧ (d 12 = true → d 0 = true ∧ d 1 = true ∧ d 2 = true ∧ d 3 = true ∧ d 4 = true ∧ d 5 = true ∧ d 6 = true ∧ d 7 = true ∧ d 8 = true ∧ d 9 = true ∧ d 10 = true ∧ d 11 = true) ∧ ((d 12 = false → Below wr.heap.size wr W) ∧ (d 12 = true → StoredR g i (fun r => Comes .quo yi v r) wr W)))
                rfl (by kernel_rfl) ?_ ?_ ?_
              · exact ⟨by simp, by simp, by simp, by simp, by simp, by simp, by simp, by simp, by simp, by simp, by simp, by simp, by simp, by simp, by simp, by simp, by simp, by simp, ⟨fun _ => (Below.refl _ _).drew, fun h => by simp at h⟩⟩
              · refine ⟨?_, ?_, ?_, ?_, ?_, ?_, ?_, ?_, ?_, ?_, ?_, ?_, ?_, trivial⟩
                all_goals
                  intro d s W hJ hfr hd hdep
                  simp only [List.mem_cons, forall_eq_or_imp, List.not_mem_nil, false_implies, implies_true, and_true, Region.binds] at hdep
                  have f4 := hfr 4 (by decide)
                  have f9 := hfr 9 (by decide)
                  have f13 := hfr 13 (by decide)
                  simp at f4 f9 f13 hdep
                  obtain ⟨h0, h1, h2, h3, h4, h5, h6, h7, h8, h9, h10, h11, x0, x1, x2, x3, x4, x5, hT⟩ := hJ
                · as_aux_lemma =>
                    have hl : d 12 = false := by
                      cases h : d 12
                      · rfl
                      · have := x5 h; simp [hd] at this
                    replace hT := hT.1 hl
                    unfold OpSteps
                    simp [go_sem, evS, f9]
                    exact ⟨fun _ => by simp [sput], fun h => by simpa [sput] using h1 (by simpa [did] using h), fun h => by simpa [sput] using h2 (by simpa [did] using h), fun h => by simpa [sput] using h3 (by simpa [did] using h), fun h => by simpa [sput] using h4 (by simpa [did] using h), fun h => by simpa [sput] using h5 (by simpa [did] using h), fun h => by simpa [sput] using h6 (by simpa [did] using h), fun h => by simpa [sput] using h7 (by simpa [did] using h), fun h => by simpa [sput] using h8 (by simpa [did] using h), fun h => by simpa [sput] using h9 (by simpa [did] using h), fun h => by simpa [sput] using h10 (by simpa [did] using h), fun h => by simpa [sput] using h11 (by simpa [did] using h), fun h => by have := x0 (by simpa [did] using h); simp [did, this], fun h => by have := x1 (by simpa [did] using h); simp [did, this], fun h => by have := x2 (by simpa [did] using h); simp [did, this], fun h => by have := x3 (by simpa [did] using h); simp [did, this], fun h => by have := x4 (by simpa [did] using h); simp [did, this], fun h => by have := x5 (by simpa [did] using h); simp [did, this], ⟨fun _ => hT, fun h => by simp [did, hl] at h⟩⟩
                · as_aux_lemma =>
                    have hl : d 12 = false := by
                      cases h : d 12
                      · rfl
                      · have := x5 h; simp [hd] at this
                    replace hT := hT.1 hl
                    unfold OpSteps
                    simp [go_sem, evS, f13]
                    exact ⟨fun h => by simpa [sput] using h0 (by simpa [did] using h), fun _ => by simp [sput], fun h => by simpa [sput] using h2 (by simpa [did] using h), fun h => by simpa [sput] using h3 (by simpa [did] using h), fun h => by simpa [sput] using h4 (by simpa [did] using h), fun h => by simpa [sput] using h5 (by simpa [did] using h), fun h => by simpa [sput] using h6 (by simpa [did] using h), fun h => by simpa [sput] using h7 (by simpa [did] using h), fun h => by simpa [sput] using h8 (by simpa [did] using h), fun h => by simpa [sput] using h9 (by simpa [did] using h), fun h => by simpa [sput] using h10 (by simpa [did] using h), fun h => by simpa [sput] using h11 (by simpa [did] using h), fun h => by have := x0 (by simpa [did] using h); simp [did, this], fun h => by have := x1 (by simpa [did] using h); simp [did, this], fun h => by have := x2 (by simpa [did] using h); simp [did, this], fun h => by have := x3 (by simpa [did] using h); simp [did, this], fun h => by have := x4 (by simpa [did] using h); simp [did, this], fun h => by have := x5 (by simpa [did] using h); simp [did, this], ⟨fun _ => hT, fun h => by simp [did, hl] at h⟩⟩
                · as_aux_lemma =>
                    have hl : d 12 = false := by
                      cases h : d 12
                      · rfl
                      · have := x5 h; simp [hd] at this
                    replace hT := hT.1 hl
                    unfold OpSteps
                    simp [go_sem, evS, f9]
                    exact ⟨fun h => by simpa [sput] using h0 (by simpa [did] using h), fun h => by simpa [sput] using h1 (by simpa [did] using h), fun _ => by simp [sput], fun h => by simpa [sput] using h3 (by simpa [did] using h), fun h => by simpa [sput] using h4 (by simpa [did] using h), fun h => by simpa [sput] using h5 (by simpa [did] using h), fun h => by simpa [sput] using h6 (by simpa [did] using h), fun h => by simpa [sput] using h7 (by simpa [did] using h), fun h => by simpa [sput] using h8 (by simpa [did] using h), fun h => by simpa [sput] using h9 (by simpa [did] using h), fun h => by simpa [sput] using h10 (by simpa [did] using h), fun h => by simpa [sput] using h11 (by simpa [did] using h), fun h => by have := x0 (by simpa [did] using h); simp [did, this], fun h => by have := x1 (by simpa [did] using h); simp [did, this], fun h => by have := x2 (by simpa [did] using h); simp [did, this], fun h => by have := x3 (by simpa [did] using h); simp [did, this], fun h => by have := x4 (by simpa [did] using h); simp [did, this], fun h => by have := x5 (by simpa [did] using h); simp [did, this], ⟨fun _ => hT, fun h => by simp [did, hl] at h⟩⟩
                · as_aux_lemma =>
                    have hl : d 12 = false := by
                      cases h : d 12
                      · rfl
                      · have := x5 h; simp [hd] at this
                    replace hT := hT.1 hl
                    unfold OpSteps
                    simp [go_sem, evS, f13]
                    exact ⟨fun h => by simpa [sput] using h0 (by simpa [did] using h), fun h => by simpa [sput] using h1 (by simpa [did] using h), fun h => by simpa [sput] using h2 (by simpa [did] using h), fun _ => by simp [sput], fun h => by simpa [sput] using h4 (by simpa [did] using h), fun h => by simpa [sput] using h5 (by simpa [did] using h), fun h => by simpa [sput] using h6 (by simpa [did] using h), fun h => by simpa [sput] using h7 (by simpa [did] using h), fun h => by simpa [sput] using h8 (by simpa [did] using h), fun h => by simpa [sput] using h9 (by simpa [did] using h), fun h => by simpa [sput] using h10 (by simpa [did] using h), fun h => by simpa [sput] using h11 (by simpa [did] using h), fun h => by have := x0 (by simpa [did] using h); simp [did, this], fun h => by have := x1 (by simpa [did] using h); simp [did, this], fun h => by have := x2 (by simpa [did] using h); simp [did, this], fun h => by have := x3 (by simpa [did] using h); simp [did, this], fun h => by have := x4 (by simpa [did] using h); simp [did, this], fun h => by have := x5 (by simpa [did] using h); simp [did, this], ⟨fun _ => hT, fun h => by simp [did, hl] at h⟩⟩
                · as_aux_lemma =>
                    have hl : d 12 = false := by
                      cases h : d 12
                      · rfl
                      · have := x5 h; simp [hd] at this
                    replace hT := hT.1 hl
                    have g2 := h2 (by simp [hdep])
                    have g3 := h3 (by simp [hdep])
                    unfold OpSteps
                    simp [go_sem, evS, g2, g3, bi]
                    exact ⟨fun h => by simpa [sput] using h0 (by simpa [did] using h), fun h => by simpa [sput] using h1 (by simpa [did] using h), fun h => by simpa [sput] using h2 (by simpa [did] using h), fun h => by simpa [sput] using h3 (by simpa [did] using h), fun _ => by simp [sput], fun h => by simpa [sput] using h5 (by simpa [did] using h), fun h => by simpa [sput] using h6 (by simpa [did] using h), fun h => by simpa [sput] using h7 (by simpa [did] using h), fun h => by simpa [sput] using h8 (by simpa [did] using h), fun h => by simpa [sput] using h9 (by simpa [did] using h), fun h => by simpa [sput] using h10 (by simpa [did] using h), fun h => by simpa [sput] using h11 (by simpa [did] using h), fun _ => by simp [did, hdep], fun h => by have := x1 (by simpa [did] using h); simp [did, this], fun h => by have := x2 (by simpa [did] using h); simp [did, this], fun h => by have := x3 (by simpa [did] using h); simp [did, this], fun h => by have := x4 (by simpa [did] using h); simp [did, this], fun h => by have := x5 (by simpa [did] using h); simp [did, this], ⟨fun _ => hT, fun h => by simp [did, hl] at h⟩⟩
                · as_aux_lemma =>
                    have hl : d 12 = false := by
                      cases h : d 12
                      · rfl
                      · have := x5 h; simp [hd] at this
                    replace hT := hT.1 hl
                    have g4 := h4 (by simp [hdep])
                    unfold OpSteps
                    have pc := cell_below HCi.out hT
                    simp [go_sem, evS, g4, pc]
                    exact ⟨fun h => by simpa [sput] using h0 (by simpa [did] using h), fun h => by simpa [sput] using h1 (by simpa [did] using h), fun h => by simpa [sput] using h2 (by simpa [did] using h), fun h => by simpa [sput] using h3 (by simpa [did] using h), fun h => by simpa [sput] using h4 (by simpa [did] using h), fun _ => by simp [sput], fun h => by simpa [sput] using h6 (by simpa [did] using h), fun h => by simpa [sput] using h7 (by simpa [did] using h), fun h => by simpa [sput] using h8 (by simpa [did] using h), fun h => by simpa [sput] using h9 (by simpa [did] using h), fun h => by simpa [sput] using h10 (by simpa [did] using h), fun h => by simpa [sput] using h11 (by simpa [did] using h), fun h => by have := x0 (by simpa [did] using h); simp [did, this], fun _ => by have y4 := x0 (by simp [hdep]); simp [did, hdep, y4], fun h => by have := x2 (by simpa [did] using h); simp [did, this], fun h => by have := x3 (by simpa [did] using h); simp [did, this], fun h => by have := x4 (by simpa [did] using h); simp [did, this], fun h => by have := x5 (by simpa [did] using h); simp [did, this], ⟨fun _ => hT, fun h => by simp [did, hl] at h⟩⟩
                · as_aux_lemma =>
                    have hl : d 12 = false := by
                      cases h : d 12
                      · rfl
                      · have := x5 h; simp [hd] at this
                    replace hT := hT.1 hl
                    unfold OpSteps
                    obtain ⟨p0, p1, p2⟩ := cells3v (HZw.out.below hT HZw.out.lt)
                    simp [go_sem, evS, f4, p0, p1, p2]
                    exact ⟨fun h => by simpa [sput] using h0 (by simpa [did] using h), fun h => by simpa [sput] using h1 (by simpa [did] using h), fun h => by simpa [sput] using h2 (by simpa [did] using h), fun h => by simpa [sput] using h3 (by simpa [did] using h), fun h => by simpa [sput] using h4 (by simpa [did] using h), fun h => by simpa [sput] using h5 (by simpa [did] using h), fun _ => by simp [sput], fun h => by simpa [sput] using h7 (by simpa [did] using h), fun h => by simpa [sput] using h8 (by simpa [did] using h), fun h => by simpa [sput] using h9 (by simpa [did] using h), fun h => by simpa [sput] using h10 (by simpa [did] using h), fun h => by simpa [sput] using h11 (by simpa [did] using h), fun h => by have := x0 (by simpa [did] using h); simp [did, this], fun h => by have := x1 (by simpa [did] using h); simp [did, this], fun h => by have := x2 (by simpa [did] using h); simp [did, this], fun h => by have := x3 (by simpa [did] using h); simp [did, this], fun h => by have := x4 (by simpa [did] using h); simp [did, this], fun h => by have := x5 (by simpa [did] using h); simp [did, this], ⟨fun _ => hT, fun h => by simp [did, hl] at h⟩⟩
                · as_aux_lemma =>
                    have hl : d 12 = false := by
                      cases h : d 12
                      · rfl
                      · have := x5 h; simp [hd] at this
                    replace hT := hT.1 hl
                    unfold OpSteps
                    simp [go_sem, evS, f13]
                    exact ⟨fun h => by simpa [sput] using h0 (by simpa [did] using h), fun h => by simpa [sput] using h1 (by simpa [did] using h), fun h => by simpa [sput] using h2 (by simpa [did] using h), fun h => by simpa [sput] using h3 (by simpa [did] using h), fun h => by simpa [sput] using h4 (by simpa [did] using h), fun h => by simpa [sput] using h5 (by simpa [did] using h), fun h => by simpa [sput] using h6 (by simpa [did] using h), fun _ => by simp [sput], fun h => by simpa [sput] using h8 (by simpa [did] using h), fun h => by simpa [sput] using h9 (by simpa [did] using h), fun h => by simpa [sput] using h10 (by simpa [did] using h), fun h => by simpa [sput] using h11 (by simpa [did] using h), fun h => by have := x0 (by simpa [did] using h); simp [did, this], fun h => by have := x1 (by simpa [did] using h); simp [did, this], fun h => by have := x2 (by simpa [did] using h); simp [did, this], fun h => by have := x3 (by simpa [did] using h); simp [did, this], fun h => by have := x4 (by simpa [did] using h); simp [did, this], fun h => by have := x5 (by simpa [did] using h); simp [did, this], ⟨fun _ => hT, fun h => by simp [did, hl] at h⟩⟩
                · as_aux_lemma =>
                    have hl : d 12 = false := by
                      cases h : d 12
                      · rfl
                      · have := x5 h; simp [hd] at this
                    replace hT := hT.1 hl
                    unfold OpSteps
                    simp [go_sem, evS, f13]
                    exact ⟨fun h => by simpa [sput] using h0 (by simpa [did] using h), fun h => by simpa [sput] using h1 (by simpa [did] using h), fun h => by simpa [sput] using h2 (by simpa [did] using h), fun h => by simpa [sput] using h3 (by simpa [did] using h), fun h => by simpa [sput] using h4 (by simpa [did] using h), fun h => by simpa [sput] using h5 (by simpa [did] using h), fun h => by simpa [sput] using h6 (by simpa [did] using h), fun h => by simpa [sput] using h7 (by simpa [did] using h), fun _ => by simp [sput], fun h => by simpa [sput] using h9 (by simpa [did] using h), fun h => by simpa [sput] using h10 (by simpa [did] using h), fun h => by simpa [sput] using h11 (by simpa [did] using h), fun h => by have := x0 (by simpa [did] using h); simp [did, this], fun h => by have := x1 (by simpa [did] using h); simp [did, this], fun h => by have := x2 (by simpa [did] using h); simp [did, this], fun h => by have := x3 (by simpa [did] using h); simp [did, this], fun h => by have := x4 (by simpa [did] using h); simp [did, this], fun h => by have := x5 (by simpa [did] using h); simp [did, this], ⟨fun _ => hT, fun h => by simp [did, hl] at h⟩⟩
                · as_aux_lemma =>
                    have hl : d 12 = false := by
                      cases h : d 12
                      · rfl
                      · have := x5 h; simp [hd] at this
                    replace hT := hT.1 hl
                    have g6 := h6 (by simp [hdep])
                    have g7 := h7 (by simp [hdep])
                    have g8 := h8 (by simp [hdep])
                    unfold OpSteps
                    simp [go_sem, evS, g6, g7, g8]
                    refine (HAv.out W (HTr.out.below hT)).mono ?_
                    rintro e W' ⟨rfl, hb⟩
                    refine ⟨_, rfl, ?_⟩
                    exact ⟨fun h => by simpa [sput] using h0 (by simpa [did] using h), fun h => by simpa [sput] using h1 (by simpa [did] using h), fun h => by simpa [sput] using h2 (by simpa [did] using h), fun h => by simpa [sput] using h3 (by simpa [did] using h), fun h => by simpa [sput] using h4 (by simpa [did] using h), fun h => by simpa [sput] using h5 (by simpa [did] using h), fun h => by simpa [sput] using h6 (by simpa [did] using h), fun h => by simpa [sput] using h7 (by simpa [did] using h), fun h => by simpa [sput] using h8 (by simpa [did] using h), fun _ => by simp [sput], fun h => by simpa [sput] using h10 (by simpa [did] using h), fun h => by simpa [sput] using h11 (by simpa [did] using h), fun h => by have := x0 (by simpa [did] using h); simp [did, this], fun h => by have := x1 (by simpa [did] using h); simp [did, this], fun _ => by simp [did, hdep], fun h => by have := x3 (by simpa [did] using h); simp [did, this], fun h => by have := x4 (by simpa [did] using h); simp [did, this], fun h => by have := x5 (by simpa [did] using h); simp [did, this], ⟨fun _ => below_nx hT hb, fun h => by simp [did, hl] at h⟩⟩
                · as_aux_lemma =>
                    have hl : d 12 = false := by
                      cases h : d 12
                      · rfl
                      · have := x5 h; simp [hd] at this
                    replace hT := hT.1 hl
                    have g5 := h5 (by simp [hdep])
                    have g9 := h9 (by simp [hdep])
                    unfold OpSteps
                    simp [go_sem, evS, g5, g9]
                    refine (rover_any yi v W).mono ?_
                    rintro e W' ⟨r, rfl, hr, hb⟩
                    refine ⟨_, rfl, ?_⟩
                    exact ⟨fun h => by simpa [sput] using h0 (by simpa [did] using h), fun h => by simpa [sput] using h1 (by simpa [did] using h), fun h => by simpa [sput] using h2 (by simpa [did] using h), fun h => by simpa [sput] using h3 (by simpa [did] using h), fun h => by simpa [sput] using h4 (by simpa [did] using h), fun h => by simpa [sput] using h5 (by simpa [did] using h), fun h => by simpa [sput] using h6 (by simpa [did] using h), fun h => by simpa [sput] using h7 (by simpa [did] using h), fun h => by simpa [sput] using h8 (by simpa [did] using h), fun h => by simpa [sput] using h9 (by simpa [did] using h), fun _ => ⟨r, by simp [sput], hr⟩, fun h => by simpa [sput] using h11 (by simpa [did] using h), fun h => by have := x0 (by simpa [did] using h); simp [did, this], fun h => by have := x1 (by simpa [did] using h); simp [did, this], fun h => by have := x2 (by simpa [did] using h); simp [did, this], fun _ => by have y5 := x1 (by simp [hdep]); have y9 := x2 (by simp [hdep]); simp [did, hdep, y5, y9], fun h => by have := x4 (by simpa [did] using h); simp [did, this], fun h => by have := x5 (by simpa [did] using h); simp [did, this], ⟨fun _ => below_nx hT hb, fun h => by simp [did, hl] at h⟩⟩
                · as_aux_lemma =>
                    have hl : d 12 = false := by
                      cases h : d 12
                      · rfl
                      · have := x5 h; simp [hd] at this
                    replace hT := hT.1 hl
                    have g0 := h0 (by simp [hdep])
                    have g1 := h1 (by simp [hdep])
                    unfold OpSteps
                    simp [go_sem, evS, g0, g1, bi]
                    exact ⟨fun h => by simpa [sput] using h0 (by simpa [did] using h), fun h => by simpa [sput] using h1 (by simpa [did] using h), fun h => by simpa [sput] using h2 (by simpa [did] using h), fun h => by simpa [sput] using h3 (by simpa [did] using h), fun h => by simpa [sput] using h4 (by simpa [did] using h), fun h => by simpa [sput] using h5 (by simpa [did] using h), fun h => by simpa [sput] using h6 (by simpa [did] using h), fun h => by simpa [sput] using h7 (by simpa [did] using h), fun h => by simpa [sput] using h8 (by simpa [did] using h), fun h => by simpa [sput] using h9 (by simpa [did] using h), fun h => by simpa [sput] using h10 (by simpa [did] using h), fun _ => by simp [sput], fun h => by have := x0 (by simpa [did] using h); simp [did, this], fun h => by have := x1 (by simpa [did] using h); simp [did, this], fun h => by have := x2 (by simpa [did] using h); simp [did, this], fun h => by have := x3 (by simpa [did] using h); simp [did, this], fun _ => by simp [did, hdep], fun h => by have := x5 (by simpa [did] using h); simp [did, this], ⟨fun _ => hT, fun h => by simp [did, hl] at h⟩⟩
                · as_aux_lemma =>
                    have g11 := h11 (by simp [hdep])
                    have g10 := h10 (by simp [hdep])
                    unfold OpSteps
                    replace hT := hT.1 hd
                    obtain ⟨r, gr, hr⟩ := g10
                    have hfz := frz_belowr HFz.out hlt0 hT
                    have hcl := cell_below HCi.out hT
                    simp [go_sem, evS, g11, gr, hfz, hcl]
                    exact ⟨fun h => by simpa [sput] using h0 (by simpa [did] using h), fun h => by simpa [sput] using h1 (by simpa [did] using h), fun h => by simpa [sput] using h2 (by simpa [did] using h), fun h => by simpa [sput] using h3 (by simpa [did] using h), fun h => by simpa [sput] using h4 (by simpa [did] using h), fun h => by simpa [sput] using h5 (by simpa [did] using h), fun h => by simpa [sput] using h6 (by simpa [did] using h), fun h => by simpa [sput] using h7 (by simpa [did] using h), fun h => by simpa [sput] using h8 (by simpa [did] using h), fun h => by simpa [sput] using h9 (by simpa [did] using h), fun h => by simpa [sput] using h10 (by simpa [did] using h), fun h => by simpa [sput] using h11 (by simpa [did] using h), fun h => by have := x0 (by simpa [did] using h); simp [did, this], fun h => by have := x1 (by simpa [did] using h); simp [did, this], fun h => by have := x2 (by simpa [did] using h); simp [did, this], fun h => by have := x3 (by simpa [did] using h); simp [did, this], fun h => by have := x4 (by simpa [did] using h); simp [did, this], fun _ => by have y10 := x3 (by simp [hdep]); have y11 := x4 (by simp [hdep]); simp [did, hdep, y10, y11], ⟨fun h => by simp [did] at h, fun _ => ⟨W, r, hT, rfl, hr⟩⟩⟩
              intro d s W hJ hd
              obtain ⟨h0, h1, h2, h3, h4, h5, h6, h7, h8, h9, h10, h11, x0, x1, x2, x3, x4, x5, hT⟩ := hJ
              obtain ⟨W', r, hbw, rfl, hr⟩ := hT.2 (hd 12 (by decide))
              have HH2 := Lib.hid (HDone.out r W' hbw hr)
              clear h0 h1 h2 h3 h4 h5 h6 h7 h8 h9 h10 h11 x0 x1 x2 x3 x4 x5 hT hd hbw hr HDone
              simp [setAll]
              generalize s 102 = s102
              generalize s 103 = s103
              generalize s 104 = s104
              generalize s 105 = s105
              generalize s 106 = s106
              generalize s 107 = s107
              generalize s 108 = s108
              generalize s 109 = s109
              generalize s 110 = s110
              generalize s 111 = s111
              generalize s 112 = s112
              generalize s 113 = s113
              generalize W'.setCell ⟨g, i, none⟩ (.float .f64 r) = wz at *
              go_wp2_with fail
              go_roundw
              case rel => exact ⟨i, (i : Int) - 1, by omega, by first | go_num | rfl, rfl, HH2⟩
              case measure => simp [intOf] <;> omega

end Go.Proofs.Ytcdhpoikppfjkaa
