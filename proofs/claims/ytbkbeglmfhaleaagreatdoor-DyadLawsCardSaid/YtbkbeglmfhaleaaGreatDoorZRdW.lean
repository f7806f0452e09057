/-
The document's Text. Conditions: the number has at most 2^24 digits, within 2^40 places.
-/
import Derived.Test.YtbkbeglmfhaleaaGreatDoorUcd
import Derived.Test.YtbkbeglmfhaleaaGreatDoorZRdE
import Derived.Lib.ItoaLen
set_option linter.unusedVariables false
set_option linter.unusedSimpArgs false
set_option linter.unnecessarySimpa false
namespace Go.Proofs.YtbkbeglmfhaleaaGreatDoor
open Go.RowKit
attribute [local go_sem ↓] Go.wp_at_zero Go.wp_at_succ

theorem sgd_dy {neg : Bool} {a c : Nat} {e e' : Int} (h : dy (a : Int) e = dy (c : Int) e') : dy (sgd neg a) e = dy (sgd neg c) e' := by
  unfold sgd
  cases neg
  · simpa using h
  · simp only [if_true]
    rw [← dy_neg, ← dy_neg, h]
theorem hexs_one : ∀ n : Fin 16, hexs.extract n.val (n.val + 1) = ⟨#[hexch n.val]⟩ := by decide +kernel
theorem hexs_cut {v : Nat} (h : v < 16) : hexs.extract v (v + 1) = ⟨#[hexch v]⟩ := hexs_one ⟨v, h⟩
theorem own_lit (W : World) (o : Value) : (W.alloc (.cells #[o] 3)).ownsRow W.heap.size 3 1 (.slice (some ⟨W.heap.size, 0, none⟩) 1 1) 1 [o] :=
  ⟨rfl, .inr ⟨W.heap.size, 1, #[o], rfl, Nat.le_refl _, heap_alloc_new W _, Nat.le_refl _, by unfold maxLen; omega, rfl, rfl⟩⟩
theorem nib_facts {d0 d1 d2 d3 : Nat} (h0 : d0 < 2) (h1 : d1 < 2) (h2 : d2 < 2) (h3 : d3 < 2) : ∃ p0 p1 p2 s1 s2 v v1 : Nat, (d0 : Int) * 8 = (p0 : Int) ∧ (d1 : Int) * 4 = (p1 : Int) ∧ (d2 : Int) * 2 = (p2 : Int) ∧ (p0 : Int) + (p1 : Int) = (s1 : Int) ∧ (s1 : Int) + (p2 : Int) = (s2 : Int) ∧ (s2 : Int) + (d3 : Int) = (v : Int) ∧ (v : Int) + 1 = (v1 : Int) ∧
    IntKind.i64.wrap (p0 : Int) = (p0 : Int) ∧ IntKind.i64.wrap (p1 : Int) = (p1 : Int) ∧ IntKind.i64.wrap (p2 : Int) = (p2 : Int) ∧ IntKind.i64.wrap (s1 : Int) = (s1 : Int) ∧ IntKind.i64.wrap (s2 : Int) = (s2 : Int) ∧ IntKind.i64.wrap (v : Int) = (v : Int) ∧ IntKind.i64.wrap (v1 : Int) = (v1 : Int) ∧ wrap64 (v1 : Int) = (v1 : Int) ∧ v < 16 ∧ v1 = v + 1 ∧ v = 8 * d0 + 4 * d1 + 2 * d2 + d3 :=
  ⟨8 * d0, 4 * d1, 2 * d2, 8 * d0 + 4 * d1, 8 * d0 + 4 * d1 + 2 * d2, 8 * d0 + 4 * d1 + 2 * d2 + d3, 8 * d0 + 4 * d1 + 2 * d2 + d3 + 1, by omega, by omega, by omega, by omega, by omega, by omega, by omega,
    (wr50 (by omega)).1, (wr50 (by omega)).1, (wr50 (by omega)).1, (wr50 (by omega)).1, (wr50 (by omega)).1, (wr50 (by omega)).1, (wr50 (by omega)).1, (wr50 (by omega)).2, by omega, rfl, rfl⟩
theorem hexN_next {x N j : Nat} (hN : nibs x = N) (hj : j < N) {v : Nat} (hv : x / 16 ^ (N - 1 - j) % 16 = v) : (hexN x).take j ++ [hexch v] = (hexN x).take (j + 1) := by
  subst hN
  rw [List.take_succ_eq_append_getElem (by rw [hexN_length]; exact hj)]
  congr 2
  simp only [hexN, List.getElem_map, List.getElem_range]
  rw [hv]
theorem add_at (b y j : Nat) : (⟨b, y, none⟩ : Addr).add j = ⟨b, y + j, none⟩ := by
  unfold Addr.add
  split
  · rename_i h; subst h; rfl
  · rfl
theorem str_snoc (l : List UInt8) (c : UInt8) : (⟨l.toArray⟩ ++ ⟨#[c]⟩ : ByteArray) = ⟨(l ++ [c]).toArray⟩ := by
  apply ByteArray.ext
  simp [ByteArray.data_append]
theorem str_app (l m : List UInt8) : (⟨l.toArray⟩ ++ ⟨m.toArray⟩ : ByteArray) = ⟨(l ++ m).toArray⟩ := by
  apply ByteArray.ext
  simp [ByteArray.data_append]
theorem four_idx {j N M i0 : Nat} (hj : j < N) (hN : N ≤ 1000000000) (hM : M = N * 4) (q0 : i0 = 4 * j) : ∃ i1 i2 i3 i4 : Nat, i1 = 4 * j + 1 ∧ i2 = 4 * j + 2 ∧ i3 = 4 * j + 3 ∧ i4 = 4 * (j + 1) ∧ i0 < M ∧ i1 < M ∧ i2 < M ∧ i3 < M ∧ (i0 : Int) + 1 = (i1 : Int) ∧ (i0 : Int) + 2 = (i2 : Int) ∧ (i0 : Int) + 3 = (i3 : Int) ∧ (i0 : Int) + 4 = (i4 : Int) ∧
    wrap64 (i1 : Int) = (i1 : Int) ∧ wrap64 (i2 : Int) = (i2 : Int) ∧ wrap64 (i3 : Int) = (i3 : Int) ∧ wrap64 (i4 : Int) = (i4 : Int) ∧ IntKind.i64.wrap (i1 : Int) = (i1 : Int) ∧ IntKind.i64.wrap (i2 : Int) = (i2 : Int) ∧ IntKind.i64.wrap (i3 : Int) = (i3 : Int) ∧ IntKind.i64.wrap (i4 : Int) = (i4 : Int) :=
  ⟨4 * j + 1, 4 * j + 2, 4 * j + 3, 4 * (j + 1), rfl, rfl, rfl, rfl, by omega, by omega, by omega, by omega, by omega, by omega, by omega, by omega,
    (wr50 (by omega)).2, (wr50 (by omega)).2, (wr50 (by omega)).2, (wr50 (by omega)).2, (wr50 (by omega)).1, (wr50 (by omega)).1, (wr50 (by omega)).1, (wr50 (by omega)).1⟩

set_option maxRecDepth 100000 in
set_option maxHeartbeats 4000000 in
theorem rtext_any (neg : Bool) (A : Option Addr) (n c : Nat) (l : List Nat) (E : Int) (w : World) (h : Rd w A n c l) (hn : n ≤ 16777216) (hE : E.natAbs ≤ 1099511627776) :
    Calls Tryz.prog 12 #[.agg #[.bool neg, .slice A n c, .int .i64 E]] w fun e w' => e = .returned (.string ⟨(txt (rdy neg l E)).toArray⟩) ∧ Below w.heap.size w w' := by
  have HOd := Lib.hid (fun W (hb : Below w.heap.size w W) => rodd_any neg A n c l E W (h.below hb) hn hE)
  have HX0 := Lib.hid (Blk.new w 30 #[.bool neg, .slice A n c, .int .i64 E])
  have HB0 := Lib.hid ((Below.refl w.heap.size w).alloc (Nat.le_refl _) (.cells #[.bool neg, .slice A n c, .int .i64 E] 30))
  clear h hn hE
  go_enter Tryz.func12, Tryz.ntmps12
  obtain ⟨a0, a1, a2⟩ := cells3 HX0.out
  go_wp2_with fail
  refine (HOd.out _ HB0.out).mono ?_
  rintro e w1 ⟨B, m, d9, b, E', rfl, hR, hT, h01, hval, hE', hm, hb⟩
  have HX1 := Lib.hid (HX0.out.next hb)
  have HB1 := Lib.hid (below_nx HB0.out hb)
  have HV := Lib.hid hval
  have HT := Lib.hid hT
  have HR := Lib.hid hR
  have HE := Lib.hid hE'
  have hml := hR.1
  have HM := Lib.hid hm
  clear hR hT hval hE' hb a0 a1 a2 hm
  rcases h01 with rfl | ⟨hh, hla⟩
  · have hm0 : m = 0 := hml
    clear hml
    subst hm0
    go_wp2_with fail
    go_ret
    refine ⟨?_, HB1.out⟩
    have h0 := HV.out
    rw [show ((hv [] : Nat) : Int) = 0 from rfl, dy_zero] at h0
    have h1 := (dy_eq_zero _ _).1 h0.symm
    have h2 : rdy neg l E = 0 := by
      rw [rdy_sgd, dy_eq_zero]
      have : ofd 65536 l = 0 := by omega
      rw [this, sgd_zero]
    rw [h2]
    rfl
  · have hm0 : 0 < m := by
      rw [hml]
      cases b with
      | nil => cases hh
      | cons x t => simp
    have ht : ((m : Int) == 0) = false := by simp; omega
    have HD := Lib.hid (show txt (rdy neg l E) = (if neg = true then [45] else []) ++ hexN (hv b) ++ [112] ++ Lib.itoa E' by rw [rdy_sgd, ← sgd_dy HV.out, txt_odd HT.out hh hla])
    have HNb := Lib.hid (show nibs (hv b) = (m + 3) / 4 by unfold nibs; rw [hv_bl HT.out hh, hml])
    obtain ⟨N, hN⟩ : ∃ N, (m + 3) / 4 = N := ⟨_, rfl⟩
    rw [hN] at HNb
    have HNm := Lib.hid (show N * 4 ≤ m + 3 ∧ m ≤ N * 4 by omega)
    have HXv := Lib.hid (show hv b = hv b from rfl)
    clear hh hla hN hml
    go_wp2_with fail
    go_loopw [3] (fun a wr => ∃ (B' : Option Addr) (m' c' : Nat) (b' : List Nat), a = .slice B' m' c' ∧ 0 < m' ∧ m' ≤ 268435459 ∧ Hid (Rd wr B' m' c' b' ∧ Two b' ∧ hv b' = hv b ∧ m ≤ m' ∧ m' ≤ N * 4) ∧ Below w1.heap.size w1 wr) (fun a _ => match a with | .slice _ n _ => N * 4 - n | _ => 0)
    case atStart => exact ⟨B, m, d9, b, rfl, hm0, by have := HM.out; omega, Lib.hid ⟨HR.out, HT.out, rfl, Nat.le_refl _, HNm.out.2⟩, Below.refl _ _⟩
    case round =>
      obtain ⟨B', m', c', b', rfl, hp, hmb, HS, hbl⟩ := hrel
      obtain ⟨r, hr⟩ : ∃ r, m' % 4 = r := ⟨_, rfl⟩
      have e1 : (m' : Int) % 4 = (r : Int) := by omega
      have e2 : (m' : Int).tmod 4 = (r : Int) := by rw [Int.tmod_eq_emod_of_nonneg (by omega)]; exact e1
      by_cases hr0 : r = 0
      · subst hr0
        have HJ := Lib.hid (show m' = N * 4 by have := HS.out.2.2.2; have := HNm.out; omega)
        have HB2 := Lib.hid (below_nx HB1.out hbl)
        have HX2 := Lib.hid (HX1.out.below hbl HX1.out.lt)
        have hrow := HS.out.1.2.2.1
        have hlen := HS.out.1.1
        obtain ⟨b0, y0, rfl, hcs⟩ : ∃ b0 y0, B' = some ⟨b0, y0, none⟩ ∧ ∀ i v, (ints b')[i]? = some v → wr.cell? ⟨b0, y0 + i, none⟩ = some v := by
          rcases hrow with h | ⟨b0, y0, e, hc⟩
          · have : b' = [] := by simpa [ints] using h
            subst this
            simp at hlen; omega
          · exact ⟨b0, y0, e, hc⟩
        have HCs := Lib.hid hcs
        have HLn := Lib.hid hlen
        clear hr hbl hcs hrow hlen
        clear e1 e2
        have e1 : (m' : Int).tmod 4 = 0 := by rw [Int.tmod_eq_emod_of_nonneg (by omega)]; have := HJ.out; omega
        obtain ⟨wo, rfl⟩ : ∃ wo : World, wo = wr := ⟨_, rfl⟩
        go_wp2_with fail
        clear e1
        go_loopw [5, 6] (fun s i wr => ∃ j i0 : Nat, Hid (j ≤ N ∧ i0 = 4 * j) ∧ s = .string ⟨((hexN (hv b)).take j).toArray⟩ ∧ i = .int .i64 (i0 : Int) ∧ Below wo.heap.size wo wr) (fun _ i _ => m' - (intOf i).toNat)
        case atStart => exact ⟨0, 0, Lib.hid ⟨Nat.zero_le _, rfl⟩, by simp, rfl, Below.refl _ _⟩
        case round =>
          obtain ⟨j, i0, HJ0, rfl, rfl, hbq⟩ := hrel
          have HBq := Lib.hid hbq
          clear hbq
          by_cases hjn : j < N
          · have hu : decide (i0 < m') = true := by have := HJ0.out; have := HJ.out; simp; omega
            have HJn := Lib.hid hjn
            have HNl := Lib.hid (show N ≤ 1000000000 by have := HJ.out; omega)
            clear hjn hmb hp
            go_wp2_with fail
            clear hu
            have q0 := HJ0.out.2
            obtain ⟨i1, i2, i3, i4, q1, q2, q3, q4, l0, l1, l2, l3, a1, a2, a3, a4, c1, c2, c3, c4, r1, r2, r3, r4⟩ := four_idx HJn.out HNl.out HJ.out q0
            have n0 := nib_at HS.out.2.1 (N := N) (j := j) (by rw [← HLn.out, HJ.out, Nat.mul_comm]) HJn.out
            rw [← q3, ← q2, ← q1, ← q0, HS.out.2.2.1] at n0
            have g2 : ∀ i, i < m' → b'.getD i 0 < 2 ∧ wr.cell? ⟨b0, y0 + i, none⟩ = some (.int .i64 ((b'.getD i 0 : Nat) : Int)) := fun i hi => by
              have hi' : i < b'.length := by rw [← HLn.out]; exact hi
              have e : b'.getD i 0 = b'[i] := by simp [List.getD, hi']
              rw [e]
              exact ⟨HS.out.2.1 _ (List.getElem_mem hi'), cell_below (HCs.out i _ (ints_get b' i hi')) HBq.out⟩
            obtain ⟨t0, z0⟩ := g2 i0 l0
            obtain ⟨t1, z1⟩ := g2 i1 l1
            obtain ⟨t2, z2⟩ := g2 i2 l2
            obtain ⟨t3, z3⟩ := g2 i3 l3
            generalize b'.getD i0 0 = d0 at *
            generalize b'.getD i1 0 = d1 at *
            generalize b'.getD i2 0 = d2 at *
            generalize b'.getD i3 0 = d3 at *
            obtain ⟨p0, p1, p2, s1, s2, v, v1, k0, k1, k2, k3, k4, k5, k6, w0, w1', w2, w3, w4, w5, w6, w7, hv16, hv1, hvv⟩ := nib_facts t0 t1 t2 t3
            rw [← hvv] at n0
            have HN0 := Lib.hid n0
            have HV1 := Lib.hid hv1
            have HQ := Lib.hid (And.intro q0 q4)
            have HV6 := Lib.hid hv16
            have HK6 := Lib.hid (And.intro k6 (And.intro w6 w7))
            have HF4 := Lib.hid (And.intro r4 (And.intro a4 c4))
            clear g2 n0 hv1 hvv hv16 q0 q1 q2 q3 q4 t0 t1 t2 t3 k6 w6 w7 r4 a4 c4
            obtain ⟨ws, hws⟩ : ∃ ws : World, ws = wr := ⟨_, rfl⟩
            refine wp_region_inv [29, 30, 31, 32, 33, 34, 35, 36, 37, 38, 39, 40, 41, 42, 43, 44, 45, 46, 47, 48, 49, 50, 51, 52, 53, 7] (fun d s W => (d 0 = true → s 29 = .slice (some ⟨b0, y0, none⟩) m' c') ∧ (d 1 = true → s 30 = .int .i64 (i0 : Int)) ∧ (d 2 = true → s 31 = .pointer (some ⟨b0, y0 + i0, none⟩)) ∧ (d 3 = true → s 32 = .int .i64 (d0 : Int)) ∧ (d 4 = true → s 33 = .int .i64 (p0 : Int)) ∧ (d 5 = true → s 34 = .slice (some ⟨b0, y0, none⟩) m' c') ∧ (d 6 = true → s 35 = .int .i64 (i0 : Int)) ∧ (d 7 = true → s 36 = .int .i64 (i1 : Int)) ∧ (d 8 = true → s 37 = .pointer (some ⟨b0, y0 + i1, none⟩)) ∧ (d 9 = true → s 38 = .int .i64 (d1 : Int)) ∧ (d 10 = true → s 39 = .int .i64 (p1 : Int)) ∧ (d 11 = true → s 40 = .int .i64 (s1 : Int)) ∧ (d 12 = true → s 41 = .slice (some ⟨b0, y0, none⟩) m' c') ∧ (d 13 = true → s 42 = .int .i64 (i0 : Int)) ∧ (d 14 = true → s 43 = .int .i64 (i2 : Int)) ∧ (d 15 = true → s 44 = .pointer (some ⟨b0, y0 + i2, none⟩)) ∧ (d 16 = true → s 45 = .int .i64 (d2 : Int)) ∧ (d 17 = true → s 46 = .int .i64 (p2 : Int)) ∧ (d 18 = true → s 47 = .int .i64 (s2 : Int)) ∧ (d 19 = true → s 48 = .slice (some ⟨b0, y0, none⟩) m' c') ∧ (d 20 = true → s 49 = .int .i64 (i0 : Int)) ∧ (d 21 = true → s 50 = .int .i64 (i3 : Int)) ∧ (d 22 = true → s 51 = .pointer (some ⟨b0, y0 + i3, none⟩)) ∧ (d 23 = true → s 52 = .int .i64 (d3 : Int)) ∧ (d 24 = true → s 53 = .int .i64 (v : Int)) ∧ (d 25 = true → s 7 = .int .i64 (v : Int)) ∧ Below wr.heap.size wr W)
              rfl (by kernel_rfl) ?_ ?_ ?_
            · exact ⟨by simp, by simp, by simp, by simp, by simp, by simp, by simp, by simp, by simp, by simp, by simp, by simp, by simp, by simp, by simp, by simp, by simp, by simp, by simp, by simp, by simp, by simp, by simp, by simp, by simp, by simp, (Below.refl _ _).drew⟩
            · refine ⟨?_, ?_, ?_, ?_, ?_, ?_, ?_, ?_, ?_, ?_, ?_, ?_, ?_, ?_, ?_, ?_, ?_, ?_, ?_, ?_, ?_, ?_, ?_, ?_, ?_, ?_, trivial⟩
              all_goals
                intro d s W hJ hfr hd hdep
                simp only [List.mem_cons, forall_eq_or_imp, List.not_mem_nil, false_implies, implies_true, and_true, Region.binds] at hdep
                have f3 := hfr 3 (by decide)
                have f6 := hfr 6 (by decide)
                simp at f3 f6 hdep
                obtain ⟨h0, h1, h2, h3, h4, h5, h6, h7, h8, h9, h10, h11, h12, h13, h14, h15, h16, h17, h18, h19, h20, h21, h22, h23, h24, h25, hT⟩ := hJ
              · unfold OpSteps
                simp [go_sem, evS, f3]
                exact ⟨fun _ => by simp [sput], fun h => by simpa [sput] using h1 (by simpa [did] using h), fun h => by simpa [sput] using h2 (by simpa [did] using h), fun h => by simpa [sput] using h3 (by simpa [did] using h), fun h => by simpa [sput] using h4 (by simpa [did] using h), fun h => by simpa [sput] using h5 (by simpa [did] using h), fun h => by simpa [sput] using h6 (by simpa [did] using h), fun h => by simpa [sput] using h7 (by simpa [did] using h), fun h => by simpa [sput] using h8 (by simpa [did] using h), fun h => by simpa [sput] using h9 (by simpa [did] using h), fun h => by simpa [sput] using h10 (by simpa [did] using h), fun h => by simpa [sput] using h11 (by simpa [did] using h), fun h => by simpa [sput] using h12 (by simpa [did] using h), fun h => by simpa [sput] using h13 (by simpa [did] using h), fun h => by simpa [sput] using h14 (by simpa [did] using h), fun h => by simpa [sput] using h15 (by simpa [did] using h), fun h => by simpa [sput] using h16 (by simpa [did] using h), fun h => by simpa [sput] using h17 (by simpa [did] using h), fun h => by simpa [sput] using h18 (by simpa [did] using h), fun h => by simpa [sput] using h19 (by simpa [did] using h), fun h => by simpa [sput] using h20 (by simpa [did] using h), fun h => by simpa [sput] using h21 (by simpa [did] using h), fun h => by simpa [sput] using h22 (by simpa [did] using h), fun h => by simpa [sput] using h23 (by simpa [did] using h), fun h => by simpa [sput] using h24 (by simpa [did] using h), fun h => by simpa [sput] using h25 (by simpa [did] using h), hT⟩
              · unfold OpSteps
                simp [go_sem, evS, f6]
                exact ⟨fun h => by simpa [sput] using h0 (by simpa [did] using h), fun _ => by simp [sput], fun h => by simpa [sput] using h2 (by simpa [did] using h), fun h => by simpa [sput] using h3 (by simpa [did] using h), fun h => by simpa [sput] using h4 (by simpa [did] using h), fun h => by simpa [sput] using h5 (by simpa [did] using h), fun h => by simpa [sput] using h6 (by simpa [did] using h), fun h => by simpa [sput] using h7 (by simpa [did] using h), fun h => by simpa [sput] using h8 (by simpa [did] using h), fun h => by simpa [sput] using h9 (by simpa [did] using h), fun h => by simpa [sput] using h10 (by simpa [did] using h), fun h => by simpa [sput] using h11 (by simpa [did] using h), fun h => by simpa [sput] using h12 (by simpa [did] using h), fun h => by simpa [sput] using h13 (by simpa [did] using h), fun h => by simpa [sput] using h14 (by simpa [did] using h), fun h => by simpa [sput] using h15 (by simpa [did] using h), fun h => by simpa [sput] using h16 (by simpa [did] using h), fun h => by simpa [sput] using h17 (by simpa [did] using h), fun h => by simpa [sput] using h18 (by simpa [did] using h), fun h => by simpa [sput] using h19 (by simpa [did] using h), fun h => by simpa [sput] using h20 (by simpa [did] using h), fun h => by simpa [sput] using h21 (by simpa [did] using h), fun h => by simpa [sput] using h22 (by simpa [did] using h), fun h => by simpa [sput] using h23 (by simpa [did] using h), fun h => by simpa [sput] using h24 (by simpa [did] using h), fun h => by simpa [sput] using h25 (by simpa [did] using h), hT⟩
              · have fz0 := h0 (by simp [hdep])
                have fz1 := h1 (by simp [hdep])
                unfold OpSteps
                simp [go_sem, evS, fz0, fz1, l0, l1, l2, l3]
                exact ⟨fun h => by simpa [sput] using h0 (by simpa [did] using h), fun h => by simpa [sput] using h1 (by simpa [did] using h), fun _ => by simp [sput], fun h => by simpa [sput] using h3 (by simpa [did] using h), fun h => by simpa [sput] using h4 (by simpa [did] using h), fun h => by simpa [sput] using h5 (by simpa [did] using h), fun h => by simpa [sput] using h6 (by simpa [did] using h), fun h => by simpa [sput] using h7 (by simpa [did] using h), fun h => by simpa [sput] using h8 (by simpa [did] using h), fun h => by simpa [sput] using h9 (by simpa [did] using h), fun h => by simpa [sput] using h10 (by simpa [did] using h), fun h => by simpa [sput] using h11 (by simpa [did] using h), fun h => by simpa [sput] using h12 (by simpa [did] using h), fun h => by simpa [sput] using h13 (by simpa [did] using h), fun h => by simpa [sput] using h14 (by simpa [did] using h), fun h => by simpa [sput] using h15 (by simpa [did] using h), fun h => by simpa [sput] using h16 (by simpa [did] using h), fun h => by simpa [sput] using h17 (by simpa [did] using h), fun h => by simpa [sput] using h18 (by simpa [did] using h), fun h => by simpa [sput] using h19 (by simpa [did] using h), fun h => by simpa [sput] using h20 (by simpa [did] using h), fun h => by simpa [sput] using h21 (by simpa [did] using h), fun h => by simpa [sput] using h22 (by simpa [did] using h), fun h => by simpa [sput] using h23 (by simpa [did] using h), fun h => by simpa [sput] using h24 (by simpa [did] using h), fun h => by simpa [sput] using h25 (by simpa [did] using h), hT⟩
              · have fz2 := h2 (by simp [hdep])
                unfold OpSteps
                have pc := cell_below z0 hT
                simp [go_sem, evS, fz2, pc]
                exact ⟨fun h => by simpa [sput] using h0 (by simpa [did] using h), fun h => by simpa [sput] using h1 (by simpa [did] using h), fun h => by simpa [sput] using h2 (by simpa [did] using h), fun _ => by simp [sput], fun h => by simpa [sput] using h4 (by simpa [did] using h), fun h => by simpa [sput] using h5 (by simpa [did] using h), fun h => by simpa [sput] using h6 (by simpa [did] using h), fun h => by simpa [sput] using h7 (by simpa [did] using h), fun h => by simpa [sput] using h8 (by simpa [did] using h), fun h => by simpa [sput] using h9 (by simpa [did] using h), fun h => by simpa [sput] using h10 (by simpa [did] using h), fun h => by simpa [sput] using h11 (by simpa [did] using h), fun h => by simpa [sput] using h12 (by simpa [did] using h), fun h => by simpa [sput] using h13 (by simpa [did] using h), fun h => by simpa [sput] using h14 (by simpa [did] using h), fun h => by simpa [sput] using h15 (by simpa [did] using h), fun h => by simpa [sput] using h16 (by simpa [did] using h), fun h => by simpa [sput] using h17 (by simpa [did] using h), fun h => by simpa [sput] using h18 (by simpa [did] using h), fun h => by simpa [sput] using h19 (by simpa [did] using h), fun h => by simpa [sput] using h20 (by simpa [did] using h), fun h => by simpa [sput] using h21 (by simpa [did] using h), fun h => by simpa [sput] using h22 (by simpa [did] using h), fun h => by simpa [sput] using h23 (by simpa [did] using h), fun h => by simpa [sput] using h24 (by simpa [did] using h), fun h => by simpa [sput] using h25 (by simpa [did] using h), hT⟩
              · have fz3 := h3 (by simp [hdep])
                unfold OpSteps
                simp [go_sem, evS, fz3, k0, w0]
                exact ⟨fun h => by simpa [sput] using h0 (by simpa [did] using h), fun h => by simpa [sput] using h1 (by simpa [did] using h), fun h => by simpa [sput] using h2 (by simpa [did] using h), fun h => by simpa [sput] using h3 (by simpa [did] using h), fun _ => by simp [sput], fun h => by simpa [sput] using h5 (by simpa [did] using h), fun h => by simpa [sput] using h6 (by simpa [did] using h), fun h => by simpa [sput] using h7 (by simpa [did] using h), fun h => by simpa [sput] using h8 (by simpa [did] using h), fun h => by simpa [sput] using h9 (by simpa [did] using h), fun h => by simpa [sput] using h10 (by simpa [did] using h), fun h => by simpa [sput] using h11 (by simpa [did] using h), fun h => by simpa [sput] using h12 (by simpa [did] using h), fun h => by simpa [sput] using h13 (by simpa [did] using h), fun h => by simpa [sput] using h14 (by simpa [did] using h), fun h => by simpa [sput] using h15 (by simpa [did] using h), fun h => by simpa [sput] using h16 (by simpa [did] using h), fun h => by simpa [sput] using h17 (by simpa [did] using h), fun h => by simpa [sput] using h18 (by simpa [did] using h), fun h => by simpa [sput] using h19 (by simpa [did] using h), fun h => by simpa [sput] using h20 (by simpa [did] using h), fun h => by simpa [sput] using h21 (by simpa [did] using h), fun h => by simpa [sput] using h22 (by simpa [did] using h), fun h => by simpa [sput] using h23 (by simpa [did] using h), fun h => by simpa [sput] using h24 (by simpa [did] using h), fun h => by simpa [sput] using h25 (by simpa [did] using h), hT⟩
              · unfold OpSteps
                simp [go_sem, evS, f3]
                exact ⟨fun h => by simpa [sput] using h0 (by simpa [did] using h), fun h => by simpa [sput] using h1 (by simpa [did] using h), fun h => by simpa [sput] using h2 (by simpa [did] using h), fun h => by simpa [sput] using h3 (by simpa [did] using h), fun h => by simpa [sput] using h4 (by simpa [did] using h), fun _ => by simp [sput], fun h => by simpa [sput] using h6 (by simpa [did] using h), fun h => by simpa [sput] using h7 (by simpa [did] using h), fun h => by simpa [sput] using h8 (by simpa [did] using h), fun h => by simpa [sput] using h9 (by simpa [did] using h), fun h => by simpa [sput] using h10 (by simpa [did] using h), fun h => by simpa [sput] using h11 (by simpa [did] using h), fun h => by simpa [sput] using h12 (by simpa [did] using h), fun h => by simpa [sput] using h13 (by simpa [did] using h), fun h => by simpa [sput] using h14 (by simpa [did] using h), fun h => by simpa [sput] using h15 (by simpa [did] using h), fun h => by simpa [sput] using h16 (by simpa [did] using h), fun h => by simpa [sput] using h17 (by simpa [did] using h), fun h => by simpa [sput] using h18 (by simpa [did] using h), fun h => by simpa [sput] using h19 (by simpa [did] using h), fun h => by simpa [sput] using h20 (by simpa [did] using h), fun h => by simpa [sput] using h21 (by simpa [did] using h), fun h => by simpa [sput] using h22 (by simpa [did] using h), fun h => by simpa [sput] using h23 (by simpa [did] using h), fun h => by simpa [sput] using h24 (by simpa [did] using h), fun h => by simpa [sput] using h25 (by simpa [did] using h), hT⟩
              · unfold OpSteps
                simp [go_sem, evS, f6]
                exact ⟨fun h => by simpa [sput] using h0 (by simpa [did] using h), fun h => by simpa [sput] using h1 (by simpa [did] using h), fun h => by simpa [sput] using h2 (by simpa [did] using h), fun h => by simpa [sput] using h3 (by simpa [did] using h), fun h => by simpa [sput] using h4 (by simpa [did] using h), fun h => by simpa [sput] using h5 (by simpa [did] using h), fun _ => by simp [sput], fun h => by simpa [sput] using h7 (by simpa [did] using h), fun h => by simpa [sput] using h8 (by simpa [did] using h), fun h => by simpa [sput] using h9 (by simpa [did] using h), fun h => by simpa [sput] using h10 (by simpa [did] using h), fun h => by simpa [sput] using h11 (by simpa [did] using h), fun h => by simpa [sput] using h12 (by simpa [did] using h), fun h => by simpa [sput] using h13 (by simpa [did] using h), fun h => by simpa [sput] using h14 (by simpa [did] using h), fun h => by simpa [sput] using h15 (by simpa [did] using h), fun h => by simpa [sput] using h16 (by simpa [did] using h), fun h => by simpa [sput] using h17 (by simpa [did] using h), fun h => by simpa [sput] using h18 (by simpa [did] using h), fun h => by simpa [sput] using h19 (by simpa [did] using h), fun h => by simpa [sput] using h20 (by simpa [did] using h), fun h => by simpa [sput] using h21 (by simpa [did] using h), fun h => by simpa [sput] using h22 (by simpa [did] using h), fun h => by simpa [sput] using h23 (by simpa [did] using h), fun h => by simpa [sput] using h24 (by simpa [did] using h), fun h => by simpa [sput] using h25 (by simpa [did] using h), hT⟩
              · have fz6 := h6 (by simp [hdep])
                unfold OpSteps
                simp [go_sem, evS, fz6, r1, c1, a1]
                exact ⟨fun h => by simpa [sput] using h0 (by simpa [did] using h), fun h => by simpa [sput] using h1 (by simpa [did] using h), fun h => by simpa [sput] using h2 (by simpa [did] using h), fun h => by simpa [sput] using h3 (by simpa [did] using h), fun h => by simpa [sput] using h4 (by simpa [did] using h), fun h => by simpa [sput] using h5 (by simpa [did] using h), fun h => by simpa [sput] using h6 (by simpa [did] using h), fun _ => by simp [sput], fun h => by simpa [sput] using h8 (by simpa [did] using h), fun h => by simpa [sput] using h9 (by simpa [did] using h), fun h => by simpa [sput] using h10 (by simpa [did] using h), fun h => by simpa [sput] using h11 (by simpa [did] using h), fun h => by simpa [sput] using h12 (by simpa [did] using h), fun h => by simpa [sput] using h13 (by simpa [did] using h), fun h => by simpa [sput] using h14 (by simpa [did] using h), fun h => by simpa [sput] using h15 (by simpa [did] using h), fun h => by simpa [sput] using h16 (by simpa [did] using h), fun h => by simpa [sput] using h17 (by simpa [did] using h), fun h => by simpa [sput] using h18 (by simpa [did] using h), fun h => by simpa [sput] using h19 (by simpa [did] using h), fun h => by simpa [sput] using h20 (by simpa [did] using h), fun h => by simpa [sput] using h21 (by simpa [did] using h), fun h => by simpa [sput] using h22 (by simpa [did] using h), fun h => by simpa [sput] using h23 (by simpa [did] using h), fun h => by simpa [sput] using h24 (by simpa [did] using h), fun h => by simpa [sput] using h25 (by simpa [did] using h), hT⟩
              · have fz5 := h5 (by simp [hdep])
                have fz7 := h7 (by simp [hdep])
                unfold OpSteps
                simp [go_sem, evS, fz5, fz7, l0, l1, l2, l3]
                exact ⟨fun h => by simpa [sput] using h0 (by simpa [did] using h), fun h => by simpa [sput] using h1 (by simpa [did] using h), fun h => by simpa [sput] using h2 (by simpa [did] using h), fun h => by simpa [sput] using h3 (by simpa [did] using h), fun h => by simpa [sput] using h4 (by simpa [did] using h), fun h => by simpa [sput] using h5 (by simpa [did] using h), fun h => by simpa [sput] using h6 (by simpa [did] using h), fun h => by simpa [sput] using h7 (by simpa [did] using h), fun _ => by simp [sput], fun h => by simpa [sput] using h9 (by simpa [did] using h), fun h => by simpa [sput] using h10 (by simpa [did] using h), fun h => by simpa [sput] using h11 (by simpa [did] using h), fun h => by simpa [sput] using h12 (by simpa [did] using h), fun h => by simpa [sput] using h13 (by simpa [did] using h), fun h => by simpa [sput] using h14 (by simpa [did] using h), fun h => by simpa [sput] using h15 (by simpa [did] using h), fun h => by simpa [sput] using h16 (by simpa [did] using h), fun h => by simpa [sput] using h17 (by simpa [did] using h), fun h => by simpa [sput] using h18 (by simpa [did] using h), fun h => by simpa [sput] using h19 (by simpa [did] using h), fun h => by simpa [sput] using h20 (by simpa [did] using h), fun h => by simpa [sput] using h21 (by simpa [did] using h), fun h => by simpa [sput] using h22 (by simpa [did] using h), fun h => by simpa [sput] using h23 (by simpa [did] using h), fun h => by simpa [sput] using h24 (by simpa [did] using h), fun h => by simpa [sput] using h25 (by simpa [did] using h), hT⟩
              · have fz8 := h8 (by simp [hdep])
                unfold OpSteps
                have pc := cell_below z1 hT
                simp [go_sem, evS, fz8, pc]
                exact ⟨fun h => by simpa [sput] using h0 (by simpa [did] using h), fun h => by simpa [sput] using h1 (by simpa [did] using h), fun h => by simpa [sput] using h2 (by simpa [did] using h), fun h => by simpa [sput] using h3 (by simpa [did] using h), fun h => by simpa [sput] using h4 (by simpa [did] using h), fun h => by simpa [sput] using h5 (by simpa [did] using h), fun h => by simpa [sput] using h6 (by simpa [did] using h), fun h => by simpa [sput] using h7 (by simpa [did] using h), fun h => by simpa [sput] using h8 (by simpa [did] using h), fun _ => by simp [sput], fun h => by simpa [sput] using h10 (by simpa [did] using h), fun h => by simpa [sput] using h11 (by simpa [did] using h), fun h => by simpa [sput] using h12 (by simpa [did] using h), fun h => by simpa [sput] using h13 (by simpa [did] using h), fun h => by simpa [sput] using h14 (by simpa [did] using h), fun h => by simpa [sput] using h15 (by simpa [did] using h), fun h => by simpa [sput] using h16 (by simpa [did] using h), fun h => by simpa [sput] using h17 (by simpa [did] using h), fun h => by simpa [sput] using h18 (by simpa [did] using h), fun h => by simpa [sput] using h19 (by simpa [did] using h), fun h => by simpa [sput] using h20 (by simpa [did] using h), fun h => by simpa [sput] using h21 (by simpa [did] using h), fun h => by simpa [sput] using h22 (by simpa [did] using h), fun h => by simpa [sput] using h23 (by simpa [did] using h), fun h => by simpa [sput] using h24 (by simpa [did] using h), fun h => by simpa [sput] using h25 (by simpa [did] using h), hT⟩
              · have fz9 := h9 (by simp [hdep])
                unfold OpSteps
                simp [go_sem, evS, fz9, k1, w1']
                exact ⟨fun h => by simpa [sput] using h0 (by simpa [did] using h), fun h => by simpa [sput] using h1 (by simpa [did] using h), fun h => by simpa [sput] using h2 (by simpa [did] using h), fun h => by simpa [sput] using h3 (by simpa [did] using h), fun h => by simpa [sput] using h4 (by simpa [did] using h), fun h => by simpa [sput] using h5 (by simpa [did] using h), fun h => by simpa [sput] using h6 (by simpa [did] using h), fun h => by simpa [sput] using h7 (by simpa [did] using h), fun h => by simpa [sput] using h8 (by simpa [did] using h), fun h => by simpa [sput] using h9 (by simpa [did] using h), fun _ => by simp [sput], fun h => by simpa [sput] using h11 (by simpa [did] using h), fun h => by simpa [sput] using h12 (by simpa [did] using h), fun h => by simpa [sput] using h13 (by simpa [did] using h), fun h => by simpa [sput] using h14 (by simpa [did] using h), fun h => by simpa [sput] using h15 (by simpa [did] using h), fun h => by simpa [sput] using h16 (by simpa [did] using h), fun h => by simpa [sput] using h17 (by simpa [did] using h), fun h => by simpa [sput] using h18 (by simpa [did] using h), fun h => by simpa [sput] using h19 (by simpa [did] using h), fun h => by simpa [sput] using h20 (by simpa [did] using h), fun h => by simpa [sput] using h21 (by simpa [did] using h), fun h => by simpa [sput] using h22 (by simpa [did] using h), fun h => by simpa [sput] using h23 (by simpa [did] using h), fun h => by simpa [sput] using h24 (by simpa [did] using h), fun h => by simpa [sput] using h25 (by simpa [did] using h), hT⟩
              · have fz4 := h4 (by simp [hdep])
                have fz10 := h10 (by simp [hdep])
                unfold OpSteps
                simp [go_sem, evS, fz4, fz10, k3, w3]
                exact ⟨fun h => by simpa [sput] using h0 (by simpa [did] using h), fun h => by simpa [sput] using h1 (by simpa [did] using h), fun h => by simpa [sput] using h2 (by simpa [did] using h), fun h => by simpa [sput] using h3 (by simpa [did] using h), fun h => by simpa [sput] using h4 (by simpa [did] using h), fun h => by simpa [sput] using h5 (by simpa [did] using h), fun h => by simpa [sput] using h6 (by simpa [did] using h), fun h => by simpa [sput] using h7 (by simpa [did] using h), fun h => by simpa [sput] using h8 (by simpa [did] using h), fun h => by simpa [sput] using h9 (by simpa [did] using h), fun h => by simpa [sput] using h10 (by simpa [did] using h), fun _ => by simp [sput], fun h => by simpa [sput] using h12 (by simpa [did] using h), fun h => by simpa [sput] using h13 (by simpa [did] using h), fun h => by simpa [sput] using h14 (by simpa [did] using h), fun h => by simpa [sput] using h15 (by simpa [did] using h), fun h => by simpa [sput] using h16 (by simpa [did] using h), fun h => by simpa [sput] using h17 (by simpa [did] using h), fun h => by simpa [sput] using h18 (by simpa [did] using h), fun h => by simpa [sput] using h19 (by simpa [did] using h), fun h => by simpa [sput] using h20 (by simpa [did] using h), fun h => by simpa [sput] using h21 (by simpa [did] using h), fun h => by simpa [sput] using h22 (by simpa [did] using h), fun h => by simpa [sput] using h23 (by simpa [did] using h), fun h => by simpa [sput] using h24 (by simpa [did] using h), fun h => by simpa [sput] using h25 (by simpa [did] using h), hT⟩
              · unfold OpSteps
                simp [go_sem, evS, f3]
                exact ⟨fun h => by simpa [sput] using h0 (by simpa [did] using h), fun h => by simpa [sput] using h1 (by simpa [did] using h), fun h => by simpa [sput] using h2 (by simpa [did] using h), fun h => by simpa [sput] using h3 (by simpa [did] using h), fun h => by simpa [sput] using h4 (by simpa [did] using h), fun h => by simpa [sput] using h5 (by simpa [did] using h), fun h => by simpa [sput] using h6 (by simpa [did] using h), fun h => by simpa [sput] using h7 (by simpa [did] using h), fun h => by simpa [sput] using h8 (by simpa [did] using h), fun h => by simpa [sput] using h9 (by simpa [did] using h), fun h => by simpa [sput] using h10 (by simpa [did] using h), fun h => by simpa [sput] using h11 (by simpa [did] using h), fun _ => by simp [sput], fun h => by simpa [sput] using h13 (by simpa [did] using h), fun h => by simpa [sput] using h14 (by simpa [did] using h), fun h => by simpa [sput] using h15 (by simpa [did] using h), fun h => by simpa [sput] using h16 (by simpa [did] using h), fun h => by simpa [sput] using h17 (by simpa [did] using h), fun h => by simpa [sput] using h18 (by simpa [did] using h), fun h => by simpa [sput] using h19 (by simpa [did] using h), fun h => by simpa [sput] using h20 (by simpa [did] using h), fun h => by simpa [sput] using h21 (by simpa [did] using h), fun h => by simpa [sput] using h22 (by simpa [did] using h), fun h => by simpa [sput] using h23 (by simpa [did] using h), fun h => by simpa [sput] using h24 (by simpa [did] using h), fun h => by simpa [sput] using h25 (by simpa [did] using h), hT⟩
              · unfold OpSteps
                simp [go_sem, evS, f6]
                exact ⟨fun h => by simpa [sput] using h0 (by simpa [did] using h), fun h => by simpa [sput] using h1 (by simpa [did] using h), fun h => by simpa [sput] using h2 (by simpa [did] using h), fun h => by simpa [sput] using h3 (by simpa [did] using h), fun h => by simpa [sput] using h4 (by simpa [did] using h), fun h => by simpa [sput] using h5 (by simpa [did] using h), fun h => by simpa [sput] using h6 (by simpa [did] using h), fun h => by simpa [sput] using h7 (by simpa [did] using h), fun h => by simpa [sput] using h8 (by simpa [did] using h), fun h => by simpa [sput] using h9 (by simpa [did] using h), fun h => by simpa [sput] using h10 (by simpa [did] using h), fun h => by simpa [sput] using h11 (by simpa [did] using h), fun h => by simpa [sput] using h12 (by simpa [did] using h), fun _ => by simp [sput], fun h => by simpa [sput] using h14 (by simpa [did] using h), fun h => by simpa [sput] using h15 (by simpa [did] using h), fun h => by simpa [sput] using h16 (by simpa [did] using h), fun h => by simpa [sput] using h17 (by simpa [did] using h), fun h => by simpa [sput] using h18 (by simpa [did] using h), fun h => by simpa [sput] using h19 (by simpa [did] using h), fun h => by simpa [sput] using h20 (by simpa [did] using h), fun h => by simpa [sput] using h21 (by simpa [did] using h), fun h => by simpa [sput] using h22 (by simpa [did] using h), fun h => by simpa [sput] using h23 (by simpa [did] using h), fun h => by simpa [sput] using h24 (by simpa [did] using h), fun h => by simpa [sput] using h25 (by simpa [did] using h), hT⟩
              · have fz13 := h13 (by simp [hdep])
                unfold OpSteps
                simp [go_sem, evS, fz13, r2, c2, a2]
                exact ⟨fun h => by simpa [sput] using h0 (by simpa [did] using h), fun h => by simpa [sput] using h1 (by simpa [did] using h), fun h => by simpa [sput] using h2 (by simpa [did] using h), fun h => by simpa [sput] using h3 (by simpa [did] using h), fun h => by simpa [sput] using h4 (by simpa [did] using h), fun h => by simpa [sput] using h5 (by simpa [did] using h), fun h => by simpa [sput] using h6 (by simpa [did] using h), fun h => by simpa [sput] using h7 (by simpa [did] using h), fun h => by simpa [sput] using h8 (by simpa [did] using h), fun h => by simpa [sput] using h9 (by simpa [did] using h), fun h => by simpa [sput] using h10 (by simpa [did] using h), fun h => by simpa [sput] using h11 (by simpa [did] using h), fun h => by simpa [sput] using h12 (by simpa [did] using h), fun h => by simpa [sput] using h13 (by simpa [did] using h), fun _ => by simp [sput], fun h => by simpa [sput] using h15 (by simpa [did] using h), fun h => by simpa [sput] using h16 (by simpa [did] using h), fun h => by simpa [sput] using h17 (by simpa [did] using h), fun h => by simpa [sput] using h18 (by simpa [did] using h), fun h => by simpa [sput] using h19 (by simpa [did] using h), fun h => by simpa [sput] using h20 (by simpa [did] using h), fun h => by simpa [sput] using h21 (by simpa [did] using h), fun h => by simpa [sput] using h22 (by simpa [did] using h), fun h => by simpa [sput] using h23 (by simpa [did] using h), fun h => by simpa [sput] using h24 (by simpa [did] using h), fun h => by simpa [sput] using h25 (by simpa [did] using h), hT⟩
              · have fz12 := h12 (by simp [hdep])
                have fz14 := h14 (by simp [hdep])
                unfold OpSteps
                simp [go_sem, evS, fz12, fz14, l0, l1, l2, l3]
                exact ⟨fun h => by simpa [sput] using h0 (by simpa [did] using h), fun h => by simpa [sput] using h1 (by simpa [did] using h), fun h => by simpa [sput] using h2 (by simpa [did] using h), fun h => by simpa [sput] using h3 (by simpa [did] using h), fun h => by simpa [sput] using h4 (by simpa [did] using h), fun h => by simpa [sput] using h5 (by simpa [did] using h), fun h => by simpa [sput] using h6 (by simpa [did] using h), fun h => by simpa [sput] using h7 (by simpa [did] using h), fun h => by simpa [sput] using h8 (by simpa [did] using h), fun h => by simpa [sput] using h9 (by simpa [did] using h), fun h => by simpa [sput] using h10 (by simpa [did] using h), fun h => by simpa [sput] using h11 (by simpa [did] using h), fun h => by simpa [sput] using h12 (by simpa [did] using h), fun h => by simpa [sput] using h13 (by simpa [did] using h), fun h => by simpa [sput] using h14 (by simpa [did] using h), fun _ => by simp [sput], fun h => by simpa [sput] using h16 (by simpa [did] using h), fun h => by simpa [sput] using h17 (by simpa [did] using h), fun h => by simpa [sput] using h18 (by simpa [did] using h), fun h => by simpa [sput] using h19 (by simpa [did] using h), fun h => by simpa [sput] using h20 (by simpa [did] using h), fun h => by simpa [sput] using h21 (by simpa [did] using h), fun h => by simpa [sput] using h22 (by simpa [did] using h), fun h => by simpa [sput] using h23 (by simpa [did] using h), fun h => by simpa [sput] using h24 (by simpa [did] using h), fun h => by simpa [sput] using h25 (by simpa [did] using h), hT⟩
              · have fz15 := h15 (by simp [hdep])
                unfold OpSteps
                have pc := cell_below z2 hT
                simp [go_sem, evS, fz15, pc]
                exact ⟨fun h => by simpa [sput] using h0 (by simpa [did] using h), fun h => by simpa [sput] using h1 (by simpa [did] using h), fun h => by simpa [sput] using h2 (by simpa [did] using h), fun h => by simpa [sput] using h3 (by simpa [did] using h), fun h => by simpa [sput] using h4 (by simpa [did] using h), fun h => by simpa [sput] using h5 (by simpa [did] using h), fun h => by simpa [sput] using h6 (by simpa [did] using h), fun h => by simpa [sput] using h7 (by simpa [did] using h), fun h => by simpa [sput] using h8 (by simpa [did] using h), fun h => by simpa [sput] using h9 (by simpa [did] using h), fun h => by simpa [sput] using h10 (by simpa [did] using h), fun h => by simpa [sput] using h11 (by simpa [did] using h), fun h => by simpa [sput] using h12 (by simpa [did] using h), fun h => by simpa [sput] using h13 (by simpa [did] using h), fun h => by simpa [sput] using h14 (by simpa [did] using h), fun h => by simpa [sput] using h15 (by simpa [did] using h), fun _ => by simp [sput], fun h => by simpa [sput] using h17 (by simpa [did] using h), fun h => by simpa [sput] using h18 (by simpa [did] using h), fun h => by simpa [sput] using h19 (by simpa [did] using h), fun h => by simpa [sput] using h20 (by simpa [did] using h), fun h => by simpa [sput] using h21 (by simpa [did] using h), fun h => by simpa [sput] using h22 (by simpa [did] using h), fun h => by simpa [sput] using h23 (by simpa [did] using h), fun h => by simpa [sput] using h24 (by simpa [did] using h), fun h => by simpa [sput] using h25 (by simpa [did] using h), hT⟩
              · have fz16 := h16 (by simp [hdep])
                unfold OpSteps
                simp [go_sem, evS, fz16, k2, w2]
                exact ⟨fun h => by simpa [sput] using h0 (by simpa [did] using h), fun h => by simpa [sput] using h1 (by simpa [did] using h), fun h => by simpa [sput] using h2 (by simpa [did] using h), fun h => by simpa [sput] using h3 (by simpa [did] using h), fun h => by simpa [sput] using h4 (by simpa [did] using h), fun h => by simpa [sput] using h5 (by simpa [did] using h), fun h => by simpa [sput] using h6 (by simpa [did] using h), fun h => by simpa [sput] using h7 (by simpa [did] using h), fun h => by simpa [sput] using h8 (by simpa [did] using h), fun h => by simpa [sput] using h9 (by simpa [did] using h), fun h => by simpa [sput] using h10 (by simpa [did] using h), fun h => by simpa [sput] using h11 (by simpa [did] using h), fun h => by simpa [sput] using h12 (by simpa [did] using h), fun h => by simpa [sput] using h13 (by simpa [did] using h), fun h => by simpa [sput] using h14 (by simpa [did] using h), fun h => by simpa [sput] using h15 (by simpa [did] using h), fun h => by simpa [sput] using h16 (by simpa [did] using h), fun _ => by simp [sput], fun h => by simpa [sput] using h18 (by simpa [did] using h), fun h => by simpa [sput] using h19 (by simpa [did] using h), fun h => by simpa [sput] using h20 (by simpa [did] using h), fun h => by simpa [sput] using h21 (by simpa [did] using h), fun h => by simpa [sput] using h22 (by simpa [did] using h), fun h => by simpa [sput] using h23 (by simpa [did] using h), fun h => by simpa [sput] using h24 (by simpa [did] using h), fun h => by simpa [sput] using h25 (by simpa [did] using h), hT⟩
              · have fz11 := h11 (by simp [hdep])
                have fz17 := h17 (by simp [hdep])
                unfold OpSteps
                simp [go_sem, evS, fz11, fz17, k4, w4]
                exact ⟨fun h => by simpa [sput] using h0 (by simpa [did] using h), fun h => by simpa [sput] using h1 (by simpa [did] using h), fun h => by simpa [sput] using h2 (by simpa [did] using h), fun h => by simpa [sput] using h3 (by simpa [did] using h), fun h => by simpa [sput] using h4 (by simpa [did] using h), fun h => by simpa [sput] using h5 (by simpa [did] using h), fun h => by simpa [sput] using h6 (by simpa [did] using h), fun h => by simpa [sput] using h7 (by simpa [did] using h), fun h => by simpa [sput] using h8 (by simpa [did] using h), fun h => by simpa [sput] using h9 (by simpa [did] using h), fun h => by simpa [sput] using h10 (by simpa [did] using h), fun h => by simpa [sput] using h11 (by simpa [did] using h), fun h => by simpa [sput] using h12 (by simpa [did] using h), fun h => by simpa [sput] using h13 (by simpa [did] using h), fun h => by simpa [sput] using h14 (by simpa [did] using h), fun h => by simpa [sput] using h15 (by simpa [did] using h), fun h => by simpa [sput] using h16 (by simpa [did] using h), fun h => by simpa [sput] using h17 (by simpa [did] using h), fun _ => by simp [sput], fun h => by simpa [sput] using h19 (by simpa [did] using h), fun h => by simpa [sput] using h20 (by simpa [did] using h), fun h => by simpa [sput] using h21 (by simpa [did] using h), fun h => by simpa [sput] using h22 (by simpa [did] using h), fun h => by simpa [sput] using h23 (by simpa [did] using h), fun h => by simpa [sput] using h24 (by simpa [did] using h), fun h => by simpa [sput] using h25 (by simpa [did] using h), hT⟩
              · unfold OpSteps
                simp [go_sem, evS, f3]
                exact ⟨fun h => by simpa [sput] using h0 (by simpa [did] using h), fun h => by simpa [sput] using h1 (by simpa [did] using h), fun h => by simpa [sput] using h2 (by simpa [did] using h), fun h => by simpa [sput] using h3 (by simpa [did] using h), fun h => by simpa [sput] using h4 (by simpa [did] using h), fun h => by simpa [sput] using h5 (by simpa [did] using h), fun h => by simpa [sput] using h6 (by simpa [did] using h), fun h => by simpa [sput] using h7 (by simpa [did] using h), fun h => by simpa [sput] using h8 (by simpa [did] using h), fun h => by simpa [sput] using h9 (by simpa [did] using h), fun h => by simpa [sput] using h10 (by simpa [did] using h), fun h => by simpa [sput] using h11 (by simpa [did] using h), fun h => by simpa [sput] using h12 (by simpa [did] using h), fun h => by simpa [sput] using h13 (by simpa [did] using h), fun h => by simpa [sput] using h14 (by simpa [did] using h), fun h => by simpa [sput] using h15 (by simpa [did] using h), fun h => by simpa [sput] using h16 (by simpa [did] using h), fun h => by simpa [sput] using h17 (by simpa [did] using h), fun h => by simpa [sput] using h18 (by simpa [did] using h), fun _ => by simp [sput], fun h => by simpa [sput] using h20 (by simpa [did] using h), fun h => by simpa [sput] using h21 (by simpa [did] using h), fun h => by simpa [sput] using h22 (by simpa [did] using h), fun h => by simpa [sput] using h23 (by simpa [did] using h), fun h => by simpa [sput] using h24 (by simpa [did] using h), fun h => by simpa [sput] using h25 (by simpa [did] using h), hT⟩
              · unfold OpSteps
                simp [go_sem, evS, f6]
                exact ⟨fun h => by simpa [sput] using h0 (by simpa [did] using h), fun h => by simpa [sput] using h1 (by simpa [did] using h), fun h => by simpa [sput] using h2 (by simpa [did] using h), fun h => by simpa [sput] using h3 (by simpa [did] using h), fun h => by simpa [sput] using h4 (by simpa [did] using h), fun h => by simpa [sput] using h5 (by simpa [did] using h), fun h => by simpa [sput] using h6 (by simpa [did] using h), fun h => by simpa [sput] using h7 (by simpa [did] using h), fun h => by simpa [sput] using h8 (by simpa [did] using h), fun h => by simpa [sput] using h9 (by simpa [did] using h), fun h => by simpa [sput] using h10 (by simpa [did] using h), fun h => by simpa [sput] using h11 (by simpa [did] using h), fun h => by simpa [sput] using h12 (by simpa [did] using h), fun h => by simpa [sput] using h13 (by simpa [did] using h), fun h => by simpa [sput] using h14 (by simpa [did] using h), fun h => by simpa [sput] using h15 (by simpa [did] using h), fun h => by simpa [sput] using h16 (by simpa [did] using h), fun h => by simpa [sput] using h17 (by simpa [did] using h), fun h => by simpa [sput] using h18 (by simpa [did] using h), fun h => by simpa [sput] using h19 (by simpa [did] using h), fun _ => by simp [sput], fun h => by simpa [sput] using h21 (by simpa [did] using h), fun h => by simpa [sput] using h22 (by simpa [did] using h), fun h => by simpa [sput] using h23 (by simpa [did] using h), fun h => by simpa [sput] using h24 (by simpa [did] using h), fun h => by simpa [sput] using h25 (by simpa [did] using h), hT⟩
              · have fz20 := h20 (by simp [hdep])
                unfold OpSteps
                simp [go_sem, evS, fz20, r3, c3, a3]
                exact ⟨fun h => by simpa [sput] using h0 (by simpa [did] using h), fun h => by simpa [sput] using h1 (by simpa [did] using h), fun h => by simpa [sput] using h2 (by simpa [did] using h), fun h => by simpa [sput] using h3 (by simpa [did] using h), fun h => by simpa [sput] using h4 (by simpa [did] using h), fun h => by simpa [sput] using h5 (by simpa [did] using h), fun h => by simpa [sput] using h6 (by simpa [did] using h), fun h => by simpa [sput] using h7 (by simpa [did] using h), fun h => by simpa [sput] using h8 (by simpa [did] using h), fun h => by simpa [sput] using h9 (by simpa [did] using h), fun h => by simpa [sput] using h10 (by simpa [did] using h), fun h => by simpa [sput] using h11 (by simpa [did] using h), fun h => by simpa [sput] using h12 (by simpa [did] using h), fun h => by simpa [sput] using h13 (by simpa [did] using h), fun h => by simpa [sput] using h14 (by simpa [did] using h), fun h => by simpa [sput] using h15 (by simpa [did] using h), fun h => by simpa [sput] using h16 (by simpa [did] using h), fun h => by simpa [sput] using h17 (by simpa [did] using h), fun h => by simpa [sput] using h18 (by simpa [did] using h), fun h => by simpa [sput] using h19 (by simpa [did] using h), fun h => by simpa [sput] using h20 (by simpa [did] using h), fun _ => by simp [sput], fun h => by simpa [sput] using h22 (by simpa [did] using h), fun h => by simpa [sput] using h23 (by simpa [did] using h), fun h => by simpa [sput] using h24 (by simpa [did] using h), fun h => by simpa [sput] using h25 (by simpa [did] using h), hT⟩
              · have fz19 := h19 (by simp [hdep])
                have fz21 := h21 (by simp [hdep])
                unfold OpSteps
                simp [go_sem, evS, fz19, fz21, l0, l1, l2, l3]
                exact ⟨fun h => by simpa [sput] using h0 (by simpa [did] using h), fun h => by simpa [sput] using h1 (by simpa [did] using h), fun h => by simpa [sput] using h2 (by simpa [did] using h), fun h => by simpa [sput] using h3 (by simpa [did] using h), fun h => by simpa [sput] using h4 (by simpa [did] using h), fun h => by simpa [sput] using h5 (by simpa [did] using h), fun h => by simpa [sput] using h6 (by simpa [did] using h), fun h => by simpa [sput] using h7 (by simpa [did] using h), fun h => by simpa [sput] using h8 (by simpa [did] using h), fun h => by simpa [sput] using h9 (by simpa [did] using h), fun h => by simpa [sput] using h10 (by simpa [did] using h), fun h => by simpa [sput] using h11 (by simpa [did] using h), fun h => by simpa [sput] using h12 (by simpa [did] using h), fun h => by simpa [sput] using h13 (by simpa [did] using h), fun h => by simpa [sput] using h14 (by simpa [did] using h), fun h => by simpa [sput] using h15 (by simpa [did] using h), fun h => by simpa [sput] using h16 (by simpa [did] using h), fun h => by simpa [sput] using h17 (by simpa [did] using h), fun h => by simpa [sput] using h18 (by simpa [did] using h), fun h => by simpa [sput] using h19 (by simpa [did] using h), fun h => by simpa [sput] using h20 (by simpa [did] using h), fun h => by simpa [sput] using h21 (by simpa [did] using h), fun _ => by simp [sput], fun h => by simpa [sput] using h23 (by simpa [did] using h), fun h => by simpa [sput] using h24 (by simpa [did] using h), fun h => by simpa [sput] using h25 (by simpa [did] using h), hT⟩
              · have fz22 := h22 (by simp [hdep])
                unfold OpSteps
                have pc := cell_below z3 hT
                simp [go_sem, evS, fz22, pc]
                exact ⟨fun h => by simpa [sput] using h0 (by simpa [did] using h), fun h => by simpa [sput] using h1 (by simpa [did] using h), fun h => by simpa [sput] using h2 (by simpa [did] using h), fun h => by simpa [sput] using h3 (by simpa [did] using h), fun h => by simpa [sput] using h4 (by simpa [did] using h), fun h => by simpa [sput] using h5 (by simpa [did] using h), fun h => by simpa [sput] using h6 (by simpa [did] using h), fun h => by simpa [sput] using h7 (by simpa [did] using h), fun h => by simpa [sput] using h8 (by simpa [did] using h), fun h => by simpa [sput] using h9 (by simpa [did] using h), fun h => by simpa [sput] using h10 (by simpa [did] using h), fun h => by simpa [sput] using h11 (by simpa [did] using h), fun h => by simpa [sput] using h12 (by simpa [did] using h), fun h => by simpa [sput] using h13 (by simpa [did] using h), fun h => by simpa [sput] using h14 (by simpa [did] using h), fun h => by simpa [sput] using h15 (by simpa [did] using h), fun h => by simpa [sput] using h16 (by simpa [did] using h), fun h => by simpa [sput] using h17 (by simpa [did] using h), fun h => by simpa [sput] using h18 (by simpa [did] using h), fun h => by simpa [sput] using h19 (by simpa [did] using h), fun h => by simpa [sput] using h20 (by simpa [did] using h), fun h => by simpa [sput] using h21 (by simpa [did] using h), fun h => by simpa [sput] using h22 (by simpa [did] using h), fun _ => by simp [sput], fun h => by simpa [sput] using h24 (by simpa [did] using h), fun h => by simpa [sput] using h25 (by simpa [did] using h), hT⟩
              · have fz18 := h18 (by simp [hdep])
                have fz23 := h23 (by simp [hdep])
                unfold OpSteps
                simp [go_sem, evS, fz18, fz23, k5, w5]
                exact ⟨fun h => by simpa [sput] using h0 (by simpa [did] using h), fun h => by simpa [sput] using h1 (by simpa [did] using h), fun h => by simpa [sput] using h2 (by simpa [did] using h), fun h => by simpa [sput] using h3 (by simpa [did] using h), fun h => by simpa [sput] using h4 (by simpa [did] using h), fun h => by simpa [sput] using h5 (by simpa [did] using h), fun h => by simpa [sput] using h6 (by simpa [did] using h), fun h => by simpa [sput] using h7 (by simpa [did] using h), fun h => by simpa [sput] using h8 (by simpa [did] using h), fun h => by simpa [sput] using h9 (by simpa [did] using h), fun h => by simpa [sput] using h10 (by simpa [did] using h), fun h => by simpa [sput] using h11 (by simpa [did] using h), fun h => by simpa [sput] using h12 (by simpa [did] using h), fun h => by simpa [sput] using h13 (by simpa [did] using h), fun h => by simpa [sput] using h14 (by simpa [did] using h), fun h => by simpa [sput] using h15 (by simpa [did] using h), fun h => by simpa [sput] using h16 (by simpa [did] using h), fun h => by simpa [sput] using h17 (by simpa [did] using h), fun h => by simpa [sput] using h18 (by simpa [did] using h), fun h => by simpa [sput] using h19 (by simpa [did] using h), fun h => by simpa [sput] using h20 (by simpa [did] using h), fun h => by simpa [sput] using h21 (by simpa [did] using h), fun h => by simpa [sput] using h22 (by simpa [did] using h), fun h => by simpa [sput] using h23 (by simpa [did] using h), fun _ => by simp [sput], fun h => by simpa [sput] using h25 (by simpa [did] using h), hT⟩
              · have fz24 := h24 (by simp [hdep])
                unfold OpSteps
                simp [go_sem, evS, fz24]
                exact ⟨fun h => by simpa [sput] using h0 (by simpa [did] using h), fun h => by simpa [sput] using h1 (by simpa [did] using h), fun h => by simpa [sput] using h2 (by simpa [did] using h), fun h => by simpa [sput] using h3 (by simpa [did] using h), fun h => by simpa [sput] using h4 (by simpa [did] using h), fun h => by simpa [sput] using h5 (by simpa [did] using h), fun h => by simpa [sput] using h6 (by simpa [did] using h), fun h => by simpa [sput] using h7 (by simpa [did] using h), fun h => by simpa [sput] using h8 (by simpa [did] using h), fun h => by simpa [sput] using h9 (by simpa [did] using h), fun h => by simpa [sput] using h10 (by simpa [did] using h), fun h => by simpa [sput] using h11 (by simpa [did] using h), fun h => by simpa [sput] using h12 (by simpa [did] using h), fun h => by simpa [sput] using h13 (by simpa [did] using h), fun h => by simpa [sput] using h14 (by simpa [did] using h), fun h => by simpa [sput] using h15 (by simpa [did] using h), fun h => by simpa [sput] using h16 (by simpa [did] using h), fun h => by simpa [sput] using h17 (by simpa [did] using h), fun h => by simpa [sput] using h18 (by simpa [did] using h), fun h => by simpa [sput] using h19 (by simpa [did] using h), fun h => by simpa [sput] using h20 (by simpa [did] using h), fun h => by simpa [sput] using h21 (by simpa [did] using h), fun h => by simpa [sput] using h22 (by simpa [did] using h), fun h => by simpa [sput] using h23 (by simpa [did] using h), fun h => by simpa [sput] using h24 (by simpa [did] using h), fun _ => by simp [sput], hT⟩
            intro d s W hJ hd
            obtain ⟨h0, h1, h2, h3, h4, h5, h6, h7, h8, h9, h10, h11, h12, h13, h14, h15, h16, h17, h18, h19, h20, h21, h22, h23, h24, h25, hT⟩ := hJ
            have hs7 := h25 (hd 25 (by decide))
            have HBe := Lib.hid hT
            clear h0 h1 h2 h3 h4 h5 h6 h7 h8 h9 h10 h11 h12 h13 h14 h15 h16 h17 h18 h19 h20 h21 h22 h23 h24 h25 hT hd
            simp [setAll, hs7]
            clear hs7
            obtain ⟨k6, w6, w7⟩ := HK6.out
            have x1 : v ≤ v1 := by rw [HV1.out]; exact Nat.le_succ _
            have x2 : v1 ≤ 16 := by rw [HV1.out]; exact HV6.out
            have HA := Lib.hid (And.intro a1 (And.intro a2 a3))
            clear a1 a2 a3 c1 c2 c3 r1 r2 r3 l1 l2 l3 z0 z1 z2 z3 k0 k1 k2 k3 k4 k5 w0 w1' w2 w3 w4 w5 hws
            have x3 : min j (hexN (hv b)).length + (v1 - v) ≤ 9223372036854775807 := by have := HJn.out; have := HNl.out; have := x2; omega
            obtain ⟨b4, b5, b6⟩ := HF4.out
            have hw4 : (i0 : Int) + 4 = (i4 : Int) := b5
            go_wp2_with fail
            clear hw4 b4 b5 b6
            go_roundw
            case rel =>
              refine ⟨j + 1, i4, Lib.hid ⟨HJn.out, HQ.out.2⟩, ?_, rfl, below_nx HBq.out HBe.out⟩
              show Value.string (⟨((hexN (hv b)).take j).toArray⟩ ++ hexs.extract v v1) = _
              rw [HV1.out, hexs_cut HV6.out, str_snoc, hexN_next HNb.out HJn.out HN0.out]
            case measure => have := HQ.out; have := l0; simp [intOf]; omega
          · have hj := HJ0.out
            have hjN : (hexN (hv b)).take j = hexN (hv b) := by
              rw [List.take_of_length_le]; rw [hexN_length, HNb.out]; omega
            rw [hjN]
            have hl := hexN_length (hv b)
            rw [HNb.out] at hl
            have HNn := Lib.hid (show j = N by omega)
            have hNb : N ≤ 268435459 := by have := HJ.out; omega
            have u1 : decide (i0 < m') = false := by have := HJ.out; simp; omega
            obtain ⟨T, hT⟩ : ∃ T, hexN (hv b) = T := ⟨_, rfl⟩
            rw [hT] at hl ⊢
            have HD' := HD.out
            rw [hT] at HD'
            have HDt := Lib.hid HD'
            have s1 : 1 + T.length ≤ 9223372036854775807 := by omega
            have s2 : ¬ 9223372036854775807 < 1 + T.length := by omega
            have HRg := Lib.hid (fun W => rdigits_any E' W (by have := HE.out; omega))
            have hil : (Lib.itoa E').length ≤ 21 := Lib.itoa_length_le E' (by have := HE.out; omega) (by have := HE.out; omega)
            have HTl := Lib.hid (show T.length ≤ 268435459 by omega)
            have HIl := Lib.hid hil
            have HX3 := Lib.hid (HX2.out.below HBq.out HX2.out.lt)
            have HB3 := Lib.hid (below_nx HB2.out HBq.out)
            obtain ⟨a0, a1, a2⟩ := cells3 HX3.out
            clear hjN hT HD' hl hj hjn
            cases neg
            · go_wp2_with fail
              refine (HRg.out _).mono ?_
              rintro e w4 ⟨rfl, hb4⟩
              obtain ⟨I, hI⟩ : ∃ I, Lib.itoa E' = I := ⟨_, rfl⟩
              rw [hI] at HIl HDt ⊢
              have s5 : T.length + 1 + I.length ≤ 9223372036854775807 := by have := HTl.out; have := HIl.out; omega
              clear s1 s2
              go_wp2_with fail
              go_ret
              refine ⟨?_, below_nx HB3.out hb4⟩
              rw [HDt.out]
              show Ending.returned (Value.string (⟨T.toArray⟩ ++ ⟨([112] : List UInt8).toArray⟩ ++ ⟨I.toArray⟩)) = _
              rw [str_app, str_app]
              simp
            · have s3 : 1 + T.length + 1 ≤ 9223372036854775807 := by have := HTl.out; omega
              go_wp2_with fail
              refine (HRg.out _).mono ?_
              rintro e w4 ⟨rfl, hb4⟩
              obtain ⟨I, hI⟩ : ∃ I, Lib.itoa E' = I := ⟨_, rfl⟩
              rw [hI] at HIl HDt ⊢
              have s5 : 1 + T.length + 1 + I.length ≤ 9223372036854775807 := by have := HTl.out; have := HIl.out; omega
              clear s1 s2 s3
              go_wp2_with fail
              go_ret
              refine ⟨?_, below_nx HB3.out hb4⟩
              rw [HDt.out]
              show Ending.returned (Value.string (⟨([45] : List UInt8).toArray⟩ ++ ⟨T.toArray⟩ ++ ⟨([112] : List UInt8).toArray⟩ ++ ⟨I.toArray⟩)) = _
              rw [str_app, str_app, str_app]
              simp
      · have hr1 : (r : Int) ≠ 0 := by omega
        have hr2 : ((r : Int) == 0) = false := by simp; omega
        have HBl := Lib.hid hbl
        have hrow := HS.out.1.2.2.1
        have hlen := HS.out.1.1
        obtain ⟨b0, y0, rfl, hcs⟩ : ∃ b0 y0, B' = some ⟨b0, y0, none⟩ ∧ ∀ i v, (ints b')[i]? = some v → wr.cell? ⟨b0, y0 + i, none⟩ = some v := by
          rcases hrow with h | ⟨b0, y0, e, hc⟩
          · have : b' = [] := by simpa [ints] using h
            subst this
            simp at hlen; omega
          · exact ⟨b0, y0, e, hc⟩
        have HCs := Lib.hid hcs
        have HLt := Lib.hid (show m' + 1 ≤ N * 4 by have := HS.out.2.2.2; omega)
        have hil : (ints b').length = m' := by simp [ints, hlen]
        have HIl := Lib.hid hil
        obtain ⟨i0, hi, hz0, hz1, hz2⟩ := info_parts info_i64
        clear hr hbl hcs hrow hlen hil
        go_wp2_with (at_builtin; refine wpList_append_own _ rfl _ _ 28 rfl wr.heap.size 3 i0 (.int .i64 0) 1 8 Tryz.underlying28 hi hz0 hz1 hz2 rfl (by decide) _ 1 [.int .i64 0] rfl (own_lit wr (.int .i64 0)) ⟨b0, y0, none⟩ m' c' (ints b') rfl ?c0 ?c1 ?c2 ?c3 ?c4 ?c5 ?_)
        case c0 => rw [HIl.out, Nat.mul_one]
        case c1 => exact fun j u hu => by rw [add_at]; exact cell_below (HCs.out j u hu) below_one
        case c2 => intro u hu; obtain ⟨z, _, rfl⟩ := List.mem_map.1 hu; rfl
        case c3 => unfold maxLen; omega
        case c4 => omega
        case c5 => simp
        intro v' w3 hown' hgrow _
        have hrd := own_rd (L := 0 :: b') (n := m' + 1) (by rw [Nat.add_comm]; exact hown') (Digs.cons (by omega) HS.out.1.2.2.2.1)
        obtain ⟨Am, cm, rfl, hRm, hcm⟩ := hrd
        have HBw := Lib.hid (below_nx HBl.out ((below_one (W := wr) (o := .cells #[.int .i64 0] 3)).grown hgrow (by simp) (fun k hk => by simp [Value.ownBlock] at hk; omega)))
        have HRm := Lib.hid hRm
        clear hown' hgrow hRm
        go_wp2_with fail
        go_roundw
        case rel => exact ⟨Am, m' + 1, cm, 0 :: b', rfl, by omega, by have := HLt.out; have := HNm.out; have := HM.out; omega, Lib.hid ⟨HRm.out, fun x hx => by
          rcases List.mem_cons.1 hx with rfl | hx
          · omega
          · exact HS.out.2.1 x hx, by rw [hv_zero]; exact HS.out.2.2.1, by have := HS.out.2.2.2; omega, HLt.out⟩, HBw.out⟩
        case measure => have := HLt.out; simp; omega

end Go.Proofs.YtbkbeglmfhaleaaGreatDoor
