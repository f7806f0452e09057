/-
The document's Add. Conditions: the numbers have at most 2^29 digits, within 2^30 places.
-/
import Derived.Test.YtelpdbkkefpjhaaZSRdJ
import Derived.Maps.AppendAt
set_option linter.unusedVariables false
set_option linter.unusedSimpArgs false
set_option linter.unnecessarySimpa false
namespace Go.Proofs.Ytelpdbkkefpjhaa
open Go.RowKit
attribute [local go_sem ↓] Go.wp_at_zero Go.wp_at_succ

theorem ints_snoc (l : List Nat) (x : Nat) : ints (l ++ [x]) = ints l ++ [.int .i64 (x : Int)] := by simp [ints]
theorem ends_bd {n n' : Nat} {E E' fr tz : Int} (hf : endsF n E n' E' = (fr, tz)) (hn : n ≤ 536870912) (hn' : n' ≤ 536870912) (hE : E.natAbs ≤ 1073741824) (hE' : E'.natAbs ≤ 1073741824) : fr.natAbs ≤ 1073741824 ∧ tz.natAbs ≤ 1610612736 := by
  unfold endsF at hf
  by_cases h0 : n = 0
  · rw [if_pos h0] at hf
    injection hf with e1 e2; omega
  · rw [if_neg h0] at hf
    by_cases h1 : n' = 0
    · rw [if_pos h1] at hf
      injection hf with e1 e2; omega
    · rw [if_neg h1] at hf
      injection hf with e1 e2; omega
theorem carry_facts {cr x y : Nat} (hc : cr ≤ 1) (hx : x < 65536) (hy : y < 65536) : ∃ U V V1 V2 : Nat, (cr : Int) + (x : Int) = (U : Int) ∧ (U : Int) + (y : Int) = (V : Int) ∧ IntKind.i64.wrap (U : Int) = (U : Int) ∧ IntKind.i64.wrap (V : Int) = (V : Int) ∧
    (V : Int) % 65536 = (V1 : Int) ∧ (V : Int) / 65536 = (V2 : Int) ∧ (V : Int).tmod 65536 = (V1 : Int) ∧ (V : Int).tdiv 65536 = (V2 : Int) ∧ wrap64 (V2 : Int) = (V2 : Int) ∧ V2 ≤ 1 ∧ V1 < 65536 ∧ (cr + x + y) % 65536 = V1 ∧ (cr + x + y) / 65536 = V2 :=
  ⟨cr + x, cr + x + y, (cr + x + y) % 65536, (cr + x + y) / 65536, by omega, by omega, iwrap_in (by omega), iwrap_in (by omega), by omega, by omega, by rw [Int.tmod_eq_emod_of_nonneg (by omega)]; omega, by rw [Int.tdiv_eq_ediv_of_nonneg (by omega)]; omega, wrap64_in (by omega), by omega, by omega, rfl, rfl⟩
theorem add_val (p : Bool) {a b : Nat} {fr : Int} {L : List Nat} {N cr : Nat} (hl : L.length = N) (h : ofd 65536 L + 65536 ^ N * cr = a + b) : rdy p (L ++ [cr]) fr = dy (sgd p (a + b)) (16 * fr) := by
  rw [rdy_sgd, ofd_snoc, hl, h]

set_option maxRecDepth 100000 in
set_option maxHeartbeats 8000000 in
theorem radd_ff (A : Option Addr) (n c : Nat) (l : List Nat) (E : Int) (A' : Option Addr) (n' c' : Nat) (l' : List Nat) (E' : Int) (w : World) (h : Rd w A n c l) (h' : Rd w A' n' c' l') (hn : n ≤ 536870912) (hn' : n' ≤ 536870912) (hE : E.natAbs ≤ 1073741824) (hE' : E'.natAbs ≤ 1073741824)  :
    Calls Try.prog 74 #[.agg #[.bool false, .slice A n c, .int .i64 E], .agg #[.bool false, .slice A' n' c', .int .i64 E']] w (RetR (rdy false l E + rdy false l' E') w) := by
  obtain ⟨⟨fr, tz⟩, hf⟩ : ∃ ft, endsF n E n' E' = ft := ⟨_, rfl⟩
  have hfb := ends_bd hf hn hn' hE hE'
  have hends := ends_ok hf
  obtain ⟨N, hN⟩ : ∃ N : Nat, fr + N = tz := ⟨(tz - fr).toNat, by have := hends.2.2; omega⟩
  have HEn := Lib.hid (fun W => rends_any false A n c E false A' n' c' E' W (by omega) (by omega) (by omega) (by omega) fr tz hf)
  have HAt := Lib.hid (fun W (hb : Below w.heap.size w W) p (hp : p.natAbs ≤ 1099511627776) => rdat_any false A n c l E p W (h.below hb) (by omega) (by omega) hp)
  have HAt' := Lib.hid (fun W (hb : Below w.heap.size w W) p (hp : p.natAbs ≤ 1099511627776) => rdat_any false A' n' c' l' E' p W (h'.below hb) (by omega) (by omega) hp)
  have HS := Lib.hid (And.intro h.2.2.2.1 h'.2.2.2.1)
  have Hh := Lib.hid (And.intro h h')
  have HV1 := Lib.hid (show rdy false l E = dy (sgd false (dsum l E fr N)) (16 * fr) from dsum_val (by rw [← h.1]; exact hends.1) hN false)
  have HV2 := Lib.hid (show rdy false l' E' = dy (sgd false (dsum l' E' fr N)) (16 * fr) from dsum_val (by rw [← h'.1]; exact hends.2.1) hN false)
  have HFb := Lib.hid hfb
  have HNn := Lib.hid hN
  have HNb := Lib.hid (show N ≤ 4294967296 by omega)
  have HX := Lib.hid (((Blk.new w 69 #[.bool false, .slice A n c, .int .i64 E]).alloc (.cells #[.bool false, .slice A' n' c', .int .i64 E'] 69)).alloc (.cells #[.bool false, .slice none 0 0, .int .i64 0] 69))
  have HY := Lib.hid ((Blk.new_ (w.alloc (.cells #[.bool false, .slice A n c, .int .i64 E] 69)) 69 #[.bool false, .slice A' n' c', .int .i64 E'] (w.heap.size + 1) (by simp)).alloc (.cells #[.bool false, .slice none 0 0, .int .i64 0] 69))
  have HR := Lib.hid (Blk.new_ ((w.alloc (.cells #[.bool false, .slice A n c, .int .i64 E] 69)).alloc (.cells #[.bool false, .slice A' n' c', .int .i64 E'] 69)) 69 #[.bool false, .slice none 0 0, .int .i64 0] (w.heap.size + 1 + 1) (by simp))
  have HBl := Lib.hid ((((Below.refl w.heap.size w).alloc (Nat.le_refl _) (.cells #[.bool false, .slice A n c, .int .i64 E] 69)).alloc (by simp) (.cells #[.bool false, .slice A' n' c', .int .i64 E'] 69)).alloc (by simp; omega) (.cells #[.bool false, .slice none 0 0, .int .i64 0] 69))
  obtain ⟨i0, hi, hz0, hz1, hz2⟩ := info_parts info_i64
  clear h h' hn hn' hE hE' hf hfb hends hN
  go_enter Try.func74, Try.ntmps74
  obtain ⟨a0, a1, a2⟩ := cells3 HX.out
  obtain ⟨b0, b1, b2⟩ := cells3 HY.out
  go_wp2_with fail
  refine (HEn.out _).mono ?_
  rintro e w1 ⟨rfl, hb⟩
  have HX1 := Lib.hid (HX.out.next hb)
  have HY1 := Lib.hid (HY.out.next hb)
  have HR1 := Lib.hid (HR.out.next hb)
  have HB1 := Lib.hid (below_nx HBl.out hb)
  have HZ1 := Lib.hid (show w.heap.size + 1 + 1 + 1 ≤ w1.heap.size by have := HR1.out.lt; omega)
  clear hb a0 a1 a2 b0 b1 b2
  obtain ⟨a0, a1, a2⟩ := cells3 HX1.out
  obtain ⟨b0, b1, b2⟩ := cells3 HY1.out
  go_wp2_with fail
  clear a0 a1 a2 b0 b1 b2
  go_loopw [7, 8, 10] (fun L cc p wr => ∃ (q cr : Nat) (Ls : List Nat), q ≤ N ∧ cr ≤ 1 ∧ cc = .int .i64 (cr : Int) ∧ p = .int .i64 (fr + (q : Int)) ∧ Hid (Ls.length = q ∧ Digs 65536 Ls ∧ ofd 65536 Ls + 65536 ^ q * cr = dsum l E fr q + dsum l' E' fr q) ∧ wr.ownsRow (w.heap.size + 1 + 1 + 1) 3 1 L q (ints Ls) ∧ Below w.heap.size w wr ∧ Blk wr w.heap.size 69 #[.bool false, .slice A n c, .int .i64 E] ∧ Blk wr (w.heap.size + 1) 69 #[.bool false, .slice A' n' c', .int .i64 E'] ∧ Blk wr (w.heap.size + 1 + 1) 69 #[.bool false, .slice none 0 0, .int .i64 0] ∧ w.heap.size + 1 + 1 + 1 ≤ wr.heap.size) (fun _ _ p _ => (tz - intOf p).toNat)
  case atStart => exact ⟨0, 0, [], Nat.zero_le _, by omega, rfl, by simp, Lib.hid ⟨rfl, Digs.nil _, by simp [ofd, dsum]⟩, World.ownsRow_nil _ _ _ _, HB1.out, HX1.out, HY1.out, HR1.out, HZ1.out⟩
  case round =>
    obtain ⟨q, cr, Ls, hq, hcr, rfl, rfl, HL, hO, hB, hX, hY, hR, hZ⟩ := hrel
    have HOr := Lib.hid hO
    have HBr := Lib.hid hB
    have HXr := Lib.hid hX
    have HYr := Lib.hid hY
    have HRr := Lib.hid hR
    have HZr := Lib.hid hZ
    clear hO hB hX hY hR hZ
    by_cases hlt : q < N
    · have hq1 : q + 1 ≤ 4294967296 := by have := HNb.out; omega
      obtain ⟨P, hP⟩ : ∃ P, fr + (q : Int) = P := ⟨_, rfl⟩
      have hp1 : wrap64 (P + 1) = P + 1 := wrap64_in (by have := HFb.out; have := HNn.out; omega)
      have hlt2 : decide (P < tz) = true := by simp; have := HNn.out; omega
      have HPb := Lib.hid (show P.natAbs ≤ 1099511627776 by have := HFb.out; have := HNn.out; omega)
      have HPP := Lib.hid hP
      rw [hP]
      obtain ⟨x, hx⟩ : ∃ x, dat l E P = x := ⟨_, rfl⟩
      obtain ⟨y, hy⟩ : ∃ y, dat l' E' P = y := ⟨_, rfl⟩
      have hx6 : x < 65536 := by rw [← hx]; exact dat_lt HS.out.1 _ _
      have hy6 : y < 65536 := by rw [← hy]; exact dat_lt HS.out.2 _ _
      have HAtP := Lib.hid (fun W (hb : Below w.heap.size w W) => HAt.out W hb P HPb.out)
      have HAtP' := Lib.hid (fun W (hb : Below w.heap.size w W) => HAt'.out W hb P HPb.out)
      rw [hx] at HAtP
      rw [hy] at HAtP'
      have HXY := Lib.hid (And.intro hx hy)
      clear hx hy hP
      obtain ⟨a0, a1, a2⟩ := cells3 HXr.out
      obtain ⟨b0, b1, b2⟩ := cells3 HYr.out
      obtain ⟨U, V, V1, V2, hU, hV, wU, wV, m1, m2, m3, m4, m5, hV21, hV1l, hV1, hV2⟩ := carry_facts hcr hx6 hy6
      have HStep := Lib.hid (show (Ls ++ [V1]).length = q + 1 ∧ Digs 65536 (Ls ++ [V1]) ∧ ofd 65536 (Ls ++ [V1]) + 65536 ^ (q + 1) * V2 = dsum l E fr (q + 1) + dsum l' E' fr (q + 1) from by
        refine ⟨by simp [HL.out.1], Digs.append HL.out.2.1 (Digs.cons hV1l (Digs.nil _)), ?_⟩
        have := carry_step (x := x) (y := y) HL.out.1 HL.out.2.2
        rw [hV1, hV2] at this
        rw [dsum, dsum, HPP.out, HXY.out.1, HXY.out.2]
        exact this)
      have HLT := Lib.hid (And.intro hlt hq)
      have HV21 := Lib.hid hV21
      clear hV1 hV2 hlt hcr hV1l hV21 hx6 hy6
      go_wp2_with fail
      refine wp_region_inv [48, 49, 50, 51, 52, 53, 54, 55, 56, 8] (fun d s W => (d 0 = true → s 48 = .int .i64 (cr : Int)) ∧ (d 1 = true → s 49 = .agg #[.bool false, .slice A n c, .int .i64 E]) ∧ (d 2 = true → s 50 = .int .i64 P) ∧ (d 3 = true → s 51 = .int .i64 (x : Int)) ∧ (d 4 = true → s 52 = .int .i64 (U : Int)) ∧ (d 5 = true → s 53 = .agg #[.bool false, .slice A' n' c', .int .i64 E']) ∧ (d 6 = true → s 54 = .int .i64 P) ∧ (d 7 = true → s 55 = .int .i64 (y : Int)) ∧ (d 8 = true → s 56 = .int .i64 (V : Int)) ∧ (d 9 = true → s 8 = .int .i64 (V : Int)) ∧ (d 9 = true → d 0 = true) ∧ (d 9 = false → s 8 = .int .i64 (cr : Int)) ∧ Below wr.heap.size wr W)
        rfl (by kernel_rfl) ?_ ?_ ?_
      · exact ⟨by simp, by simp, by simp, by simp, by simp, by simp, by simp, by simp, by simp, by simp, by simp, fun _ => by simp, (Below.refl _ _).drew⟩
      · refine ⟨?_, ?_, ?_, ?_, ?_, ?_, ?_, ?_, ?_, ?_, trivial⟩
        all_goals
          intro d s W hJ hfr hd hdep
          simp only [List.mem_cons, forall_eq_or_imp, List.not_mem_nil, false_implies, implies_true, and_true, Region.binds] at hdep
          have f2 := hfr 2 (by decide)
          have f3 := hfr 3 (by decide)
          have f10 := hfr 10 (by decide)
          simp at f2 f3 f10 hdep
          obtain ⟨h0, h1, h2, h3, h4, h5, h6, h7, h8, h9, x0, x1, hT⟩ := hJ
        · unfold OpSteps
          have e8 : d 9 = false := by
            cases h : d 9
            · rfl
            · have := x0 h; simp [hd] at this
          have f8 := x1 e8
          simp [go_sem, evS, f8]
          exact ⟨fun _ => by simp [sput], fun h => by simpa [sput] using h1 (by simpa [did] using h), fun h => by simpa [sput] using h2 (by simpa [did] using h), fun h => by simpa [sput] using h3 (by simpa [did] using h), fun h => by simpa [sput] using h4 (by simpa [did] using h), fun h => by simpa [sput] using h5 (by simpa [did] using h), fun h => by simpa [sput] using h6 (by simpa [did] using h), fun h => by simpa [sput] using h7 (by simpa [did] using h), fun h => by simpa [sput] using h8 (by simpa [did] using h), fun h => by simpa [sput] using h9 (by simpa [did] using h), fun h => by have := x0 (by simpa [did] using h); simp [did, this], fun h => by simpa [sput] using x1 (by simpa [did] using h), hT⟩
        · unfold OpSteps
          obtain ⟨p0, p1, p2⟩ := cells3 (HXr.out.below hT HXr.out.lt)
          simp [go_sem, evS, f2, p0, p1, p2]
          exact ⟨fun h => by simpa [sput] using h0 (by simpa [did] using h), fun _ => by simp [sput], fun h => by simpa [sput] using h2 (by simpa [did] using h), fun h => by simpa [sput] using h3 (by simpa [did] using h), fun h => by simpa [sput] using h4 (by simpa [did] using h), fun h => by simpa [sput] using h5 (by simpa [did] using h), fun h => by simpa [sput] using h6 (by simpa [did] using h), fun h => by simpa [sput] using h7 (by simpa [did] using h), fun h => by simpa [sput] using h8 (by simpa [did] using h), fun h => by simpa [sput] using h9 (by simpa [did] using h), fun h => by have := x0 (by simpa [did] using h); simp [did, this], fun h => by simpa [sput] using x1 (by simpa [did] using h), hT⟩
        · unfold OpSteps
          simp [go_sem, evS, f10]
          exact ⟨fun h => by simpa [sput] using h0 (by simpa [did] using h), fun h => by simpa [sput] using h1 (by simpa [did] using h), fun _ => by simp [sput], fun h => by simpa [sput] using h3 (by simpa [did] using h), fun h => by simpa [sput] using h4 (by simpa [did] using h), fun h => by simpa [sput] using h5 (by simpa [did] using h), fun h => by simpa [sput] using h6 (by simpa [did] using h), fun h => by simpa [sput] using h7 (by simpa [did] using h), fun h => by simpa [sput] using h8 (by simpa [did] using h), fun h => by simpa [sput] using h9 (by simpa [did] using h), fun h => by have := x0 (by simpa [did] using h); simp [did, this], fun h => by simpa [sput] using x1 (by simpa [did] using h), hT⟩
        · have fz1 := h1 (by simp [hdep])
          have fz2 := h2 (by simp [hdep])
          unfold OpSteps
          simp [go_sem, evS, fz1, fz2]
          refine (HAtP.out W (below_nx HBr.out hT)).mono ?_
          rintro e W' ⟨rfl, hb⟩
          refine ⟨_, rfl, ?_⟩
          exact ⟨fun h => by simpa [sput] using h0 (by simpa [did] using h), fun h => by simpa [sput] using h1 (by simpa [did] using h), fun h => by simpa [sput] using h2 (by simpa [did] using h), fun _ => by simp [sput], fun h => by simpa [sput] using h4 (by simpa [did] using h), fun h => by simpa [sput] using h5 (by simpa [did] using h), fun h => by simpa [sput] using h6 (by simpa [did] using h), fun h => by simpa [sput] using h7 (by simpa [did] using h), fun h => by simpa [sput] using h8 (by simpa [did] using h), fun h => by simpa [sput] using h9 (by simpa [did] using h), fun h => by have := x0 (by simpa [did] using h); simp [did, this], fun h => by simpa [sput] using x1 (by simpa [did] using h), below_nx hT hb⟩
        · have fz0 := h0 (by simp [hdep])
          have fz3 := h3 (by simp [hdep])
          unfold OpSteps
          simp [go_sem, evS, fz0, fz3, hU, wU]
          exact ⟨fun h => by simpa [sput] using h0 (by simpa [did] using h), fun h => by simpa [sput] using h1 (by simpa [did] using h), fun h => by simpa [sput] using h2 (by simpa [did] using h), fun h => by simpa [sput] using h3 (by simpa [did] using h), fun _ => by simp [sput], fun h => by simpa [sput] using h5 (by simpa [did] using h), fun h => by simpa [sput] using h6 (by simpa [did] using h), fun h => by simpa [sput] using h7 (by simpa [did] using h), fun h => by simpa [sput] using h8 (by simpa [did] using h), fun h => by simpa [sput] using h9 (by simpa [did] using h), fun h => by have := x0 (by simpa [did] using h); simp [did, this], fun h => by simpa [sput] using x1 (by simpa [did] using h), hT⟩
        · unfold OpSteps
          obtain ⟨p0, p1, p2⟩ := cells3 (HYr.out.below hT HYr.out.lt)
          simp [go_sem, evS, f3, p0, p1, p2]
          exact ⟨fun h => by simpa [sput] using h0 (by simpa [did] using h), fun h => by simpa [sput] using h1 (by simpa [did] using h), fun h => by simpa [sput] using h2 (by simpa [did] using h), fun h => by simpa [sput] using h3 (by simpa [did] using h), fun h => by simpa [sput] using h4 (by simpa [did] using h), fun _ => by simp [sput], fun h => by simpa [sput] using h6 (by simpa [did] using h), fun h => by simpa [sput] using h7 (by simpa [did] using h), fun h => by simpa [sput] using h8 (by simpa [did] using h), fun h => by simpa [sput] using h9 (by simpa [did] using h), fun h => by have := x0 (by simpa [did] using h); simp [did, this], fun h => by simpa [sput] using x1 (by simpa [did] using h), hT⟩
        · unfold OpSteps
          simp [go_sem, evS, f10]
          exact ⟨fun h => by simpa [sput] using h0 (by simpa [did] using h), fun h => by simpa [sput] using h1 (by simpa [did] using h), fun h => by simpa [sput] using h2 (by simpa [did] using h), fun h => by simpa [sput] using h3 (by simpa [did] using h), fun h => by simpa [sput] using h4 (by simpa [did] using h), fun h => by simpa [sput] using h5 (by simpa [did] using h), fun _ => by simp [sput], fun h => by simpa [sput] using h7 (by simpa [did] using h), fun h => by simpa [sput] using h8 (by simpa [did] using h), fun h => by simpa [sput] using h9 (by simpa [did] using h), fun h => by have := x0 (by simpa [did] using h); simp [did, this], fun h => by simpa [sput] using x1 (by simpa [did] using h), hT⟩
        · have fz5 := h5 (by simp [hdep])
          have fz6 := h6 (by simp [hdep])
          unfold OpSteps
          simp [go_sem, evS, fz5, fz6]
          refine (HAtP'.out W (below_nx HBr.out hT)).mono ?_
          rintro e W' ⟨rfl, hb⟩
          refine ⟨_, rfl, ?_⟩
          exact ⟨fun h => by simpa [sput] using h0 (by simpa [did] using h), fun h => by simpa [sput] using h1 (by simpa [did] using h), fun h => by simpa [sput] using h2 (by simpa [did] using h), fun h => by simpa [sput] using h3 (by simpa [did] using h), fun h => by simpa [sput] using h4 (by simpa [did] using h), fun h => by simpa [sput] using h5 (by simpa [did] using h), fun h => by simpa [sput] using h6 (by simpa [did] using h), fun _ => by simp [sput], fun h => by simpa [sput] using h8 (by simpa [did] using h), fun h => by simpa [sput] using h9 (by simpa [did] using h), fun h => by have := x0 (by simpa [did] using h); simp [did, this], fun h => by simpa [sput] using x1 (by simpa [did] using h), below_nx hT hb⟩
        · have fz4 := h4 (by simp [hdep])
          have fz7 := h7 (by simp [hdep])
          unfold OpSteps
          simp [go_sem, evS, fz4, fz7, hV, wV]
          exact ⟨fun h => by simpa [sput] using h0 (by simpa [did] using h), fun h => by simpa [sput] using h1 (by simpa [did] using h), fun h => by simpa [sput] using h2 (by simpa [did] using h), fun h => by simpa [sput] using h3 (by simpa [did] using h), fun h => by simpa [sput] using h4 (by simpa [did] using h), fun h => by simpa [sput] using h5 (by simpa [did] using h), fun h => by simpa [sput] using h6 (by simpa [did] using h), fun h => by simpa [sput] using h7 (by simpa [did] using h), fun _ => by simp [sput], fun h => by simpa [sput] using h9 (by simpa [did] using h), fun h => by have := x0 (by simpa [did] using h); simp [did, this], fun h => by simpa [sput] using x1 (by simpa [did] using h), hT⟩
        · have fz8 := h8 (by simp [hdep])
          unfold OpSteps
          simp [go_sem, evS, fz8]
          exact ⟨fun h => by simpa [sput] using h0 (by simpa [did] using h), fun h => by simpa [sput] using h1 (by simpa [did] using h), fun h => by simpa [sput] using h2 (by simpa [did] using h), fun h => by simpa [sput] using h3 (by simpa [did] using h), fun h => by simpa [sput] using h4 (by simpa [did] using h), fun h => by simpa [sput] using h5 (by simpa [did] using h), fun h => by simpa [sput] using h6 (by simpa [did] using h), fun h => by simpa [sput] using h7 (by simpa [did] using h), fun h => by simpa [sput] using h8 (by simpa [did] using h), fun _ => by simp [sput], fun _ => by first | simp [did, hdep] | (have := x0 (by simp [hdep]); simp [did, this]), fun h => by simp [did] at h, hT⟩
      intro d s W hJ hd
      obtain ⟨h0, h1, h2, h3, h4, h5, h6, h7, h8, h9, x0, x1, hT⟩ := hJ
      have hs8 := h9 (hd 9 (by decide))
      have hb : Below wr.heap.size wr W := hT
      clear h0 h1 h2 h3 h4 h5 h6 h7 h8 h9 x0 x1 hT hd
      simp [setAll, hs8]
      clear hs8
      generalize s 48 = s48
      generalize s 49 = s49
      generalize s 50 = s50
      generalize s 51 = s51
      generalize s 52 = s52
      generalize s 53 = s53
      generalize s 54 = s54
      generalize s 55 = s55
      generalize s 56 = s56
      have HX2 := Lib.hid (HXr.out.next hb)
      have HY2 := Lib.hid (HYr.out.next hb)
      have HR2 := Lib.hid (HRr.out.next hb)
      have HB2 := Lib.hid (below_nx HBr.out hb)
      have HZ2 := Lib.hid (Nat.le_trans HZr.out hb.size)
      have HO2 := Lib.hid (ownsRow_below HOr.out hb)
      clear hb a0 a1 a2 b0 b1 b2
      generalize W = w2 at *
      clear hU hV wU wV hlt2
      have HOaa := Lib.hid (HO2.out.alloc (.cells #[.int .i64 (V1 : Int)] 3))
      go_wp2_with (at_builtin; refine wpList_append_own _ rfl _ _ 27 rfl (w.heap.size + 1 + 1 + 1) 3 i0 (.int .i64 0) 1 8 Try.underlying27 hi hz0 hz1 hz2 rfl (by decide) _ q (ints Ls) rfl HOaa.out ⟨w2.heap.size, 0, none⟩ 1 1 [.int .i64 (V1 : Int)] rfl rfl ?c1a (by intro u hu; simp at hu; subst hu; rfl) ?c3a ?c4a ?c5a ?_)
      case c1a => exact cell_one_new _ _ _
      case c3a => unfold maxLen; have := HNb.out; omega
      case c4a => have := HNb.out; omega
      case c5a => (try simp); have := HZ2.out; omega
      intro v' w3 hown' hgrow _
      have hal := (Below.refl w2.heap.size w2).alloc (Nat.le_refl _) (.cells #[.int .i64 (V1 : Int)] 3)
      have hgx : ∀ k, k < w.heap.size + 1 + 1 + 1 → w3.heap[k]? = w2.heap[k]? := fun k hk => (hgrow.block k (by simp; have := HZ2.out; omega) (fun e => by have := (HOaa.out.lt k e.symm).1; omega)).trans (hal.block k (by have := HZ2.out; omega))
      have HX3 := Lib.hid (show Blk w3 w.heap.size 69 _ from (hgx _ (by omega)).trans HX2.out)
      have HY3 := Lib.hid (show Blk w3 (w.heap.size + 1) 69 _ from (hgx _ (by omega)).trans HY2.out)
      have HR3 := Lib.hid (show Blk w3 (w.heap.size + 1 + 1) 69 _ from (hgx _ (by omega)).trans HR2.out)
      have HB3 := Lib.hid ((below_nx HB2.out hal).grown hgrow (by simp; have := HZ2.out; omega) (fun k hk => by have := (HOaa.out.lt k hk).1; omega))
      have HZ3 := Lib.hid (show w.heap.size + 1 + 1 + 1 ≤ w3.heap.size by have := hgrow.size; have := HZ2.out; simp at *; omega)
      have HO3 := Lib.hid (show w3.ownsRow (w.heap.size + 1 + 1 + 1) 3 1 v' (q + 1) (ints (Ls ++ [V1])) by rw [ints_snoc]; exact hown')
      clear hown' hgrow hal hgx
      go_wp2_with fail
      go_roundw
      case rel => exact ⟨q + 1, V2, Ls ++ [V1], by have := HLT.out.1; omega, HV21.out, by rw [m5], congrArg (Value.int .i64) (by have := HPP.out; rw [hp1]; omega), HStep, HO3.out, HB3.out, HX3.out, HY3.out, HR3.out, HZ3.out⟩
      case measure => have := HPP.out; have := HLT.out.1; have := HNn.out; simp [intOf]; omega
    · obtain rfl : q = N := by omega
      have hlt2 : decide (fr + (q : Int) < tz) = false := by simp; have := HNn.out; omega
      have HX2 := HXr
      have HY2 := HYr
      have HR2 := HRr
      have HB2 := HBr
      have HZ2 := HZr
      have HO2 := HOr
      generalize wr = w2 at *
      have HOab := Lib.hid (HO2.out.alloc (.cells #[.int .i64 (cr : Int)] 3))
      go_wp2_with (at_builtin; refine wpList_append_own _ rfl _ _ 27 rfl (w.heap.size + 1 + 1 + 1) 3 i0 (.int .i64 0) 1 8 Try.underlying27 hi hz0 hz1 hz2 rfl (by decide) _ q (ints Ls) rfl HOab.out ⟨w2.heap.size, 0, none⟩ 1 1 [.int .i64 (cr : Int)] rfl rfl ?c1b (by intro u hu; simp at hu; subst hu; rfl) ?c3b ?c4b ?c5b ?_)
      case c1b => exact cell_one_new _ _ _
      case c3b => unfold maxLen; have := HNb.out; omega
      case c4b => have := HNb.out; omega
      case c5b => (try simp); have := HZ2.out; omega
      intro v' w3 hown' hgrow _
      have hal := (Below.refl w2.heap.size w2).alloc (Nat.le_refl _) (.cells #[.int .i64 (cr : Int)] 3)
      have hgx : ∀ k, k < w.heap.size + 1 + 1 + 1 → w3.heap[k]? = w2.heap[k]? := fun k hk => (hgrow.block k (by simp; have := HZ2.out; omega) (fun e => by have := (HOab.out.lt k e.symm).1; omega)).trans (hal.block k (by have := HZ2.out; omega))
      have HX3 := Lib.hid (show Blk w3 w.heap.size 69 _ from (hgx _ (by omega)).trans HX2.out)
      have HY3 := Lib.hid (show Blk w3 (w.heap.size + 1) 69 _ from (hgx _ (by omega)).trans HY2.out)
      have HR3 := Lib.hid (show Blk w3 (w.heap.size + 1 + 1) 69 _ from (hgx _ (by omega)).trans HR2.out)
      have HB3 := Lib.hid ((below_nx HB2.out hal).grown hgrow (by simp; have := HZ2.out; omega) (fun k hk => by have := (HOab.out.lt k hk).1; omega))
      have HZ3 := Lib.hid (show w.heap.size + 1 + 1 + 1 ≤ w3.heap.size by have := hgrow.size; have := HZ2.out; simp at *; omega)
      have HO3 := Lib.hid (show w3.ownsRow (w.heap.size + 1 + 1 + 1) 3 1 v' (q + 1) (ints (Ls ++ [cr])) by rw [ints_snoc]; exact hown')
      clear hown' hgrow hal hgx

      have hrd := own_rd (n := q + 1) HO3.out (Digs.append HL.out.2.1 (Digs.cons (show cr < 65536 by omega) (Digs.nil _)))
      obtain ⟨Am, cm, rfl, hRm, hcm⟩ := hrd
      have HRm := Lib.hid hRm
      have Hcm := Lib.hid hcm
      clear hRm hcm
      go_wp2_with fail
      refine (made_any false Am (q + 1) cm _ fr _ HRm.out (by have := HNb.out; omega) (by have := HFb.out; omega) Hcm.out).mono ?_
      rintro e w4 ⟨ng4, A4, n4, c4, E4, L4, rfl, hR4, hN4, hd4, hb⟩
      have HR4 := Lib.hid (HR3.out.next hb)
      have f0 := HR4.out.frozen 0
      have f1 := HR4.out.frozen 1
      have f2 := HR4.out.frozen 2
      obtain ⟨r0, r1, r2⟩ := cells3 HR4.out
      have HB4 := Lib.hid (below_nx HB3.out hb)
      have HRd4 := Lib.hid hR4
      have HN4 := Lib.hid hN4
      have HD4 := Lib.hid (show rdy ng4 L4 E4 = rdy false l E + rdy false l' E' from hd4.trans (by rw [HV1.out, HV2.out, dy_add, sgd_add]; exact add_val false HL.out.1 HL.out.2.2))
      clear hb hR4 hN4 hd4
      go_wp2_with fail
      obtain ⟨q0, q1, q2⟩ := cells3 (Blk.store3 HR4.out (.bool ng4) (.slice A4 n4 c4) (.int .i64 E4))
      exact bodyPost_ret (v := .agg #[.bool ng4, .slice A4 n4 c4, .int .i64 E4]) (by simp [results, Try.results74, go_sem, q0, q1, q2]) rfl (retR_done HR4.out HRd4.out HN4.out HD4.out HB4.out (by omega))

set_option maxRecDepth 100000 in
set_option maxHeartbeats 8000000 in
theorem radd_tt (A : Option Addr) (n c : Nat) (l : List Nat) (E : Int) (A' : Option Addr) (n' c' : Nat) (l' : List Nat) (E' : Int) (w : World) (h : Rd w A n c l) (h' : Rd w A' n' c' l') (hn : n ≤ 536870912) (hn' : n' ≤ 536870912) (hE : E.natAbs ≤ 1073741824) (hE' : E'.natAbs ≤ 1073741824)  :
    Calls Try.prog 74 #[.agg #[.bool true, .slice A n c, .int .i64 E], .agg #[.bool true, .slice A' n' c', .int .i64 E']] w (RetR (rdy true l E + rdy true l' E') w) := by
  obtain ⟨⟨fr, tz⟩, hf⟩ : ∃ ft, endsF n E n' E' = ft := ⟨_, rfl⟩
  have hfb := ends_bd hf hn hn' hE hE'
  have hends := ends_ok hf
  obtain ⟨N, hN⟩ : ∃ N : Nat, fr + N = tz := ⟨(tz - fr).toNat, by have := hends.2.2; omega⟩
  have HEn := Lib.hid (fun W => rends_any true A n c E true A' n' c' E' W (by omega) (by omega) (by omega) (by omega) fr tz hf)
  have HAt := Lib.hid (fun W (hb : Below w.heap.size w W) p (hp : p.natAbs ≤ 1099511627776) => rdat_any true A n c l E p W (h.below hb) (by omega) (by omega) hp)
  have HAt' := Lib.hid (fun W (hb : Below w.heap.size w W) p (hp : p.natAbs ≤ 1099511627776) => rdat_any true A' n' c' l' E' p W (h'.below hb) (by omega) (by omega) hp)
  have HS := Lib.hid (And.intro h.2.2.2.1 h'.2.2.2.1)
  have Hh := Lib.hid (And.intro h h')
  have HV1 := Lib.hid (show rdy true l E = dy (sgd true (dsum l E fr N)) (16 * fr) from dsum_val (by rw [← h.1]; exact hends.1) hN true)
  have HV2 := Lib.hid (show rdy true l' E' = dy (sgd true (dsum l' E' fr N)) (16 * fr) from dsum_val (by rw [← h'.1]; exact hends.2.1) hN true)
  have HFb := Lib.hid hfb
  have HNn := Lib.hid hN
  have HNb := Lib.hid (show N ≤ 4294967296 by omega)
  have HX := Lib.hid (((Blk.new w 69 #[.bool true, .slice A n c, .int .i64 E]).alloc (.cells #[.bool true, .slice A' n' c', .int .i64 E'] 69)).alloc (.cells #[.bool false, .slice none 0 0, .int .i64 0] 69))
  have HY := Lib.hid ((Blk.new_ (w.alloc (.cells #[.bool true, .slice A n c, .int .i64 E] 69)) 69 #[.bool true, .slice A' n' c', .int .i64 E'] (w.heap.size + 1) (by simp)).alloc (.cells #[.bool false, .slice none 0 0, .int .i64 0] 69))
  have HR := Lib.hid (Blk.new_ ((w.alloc (.cells #[.bool true, .slice A n c, .int .i64 E] 69)).alloc (.cells #[.bool true, .slice A' n' c', .int .i64 E'] 69)) 69 #[.bool false, .slice none 0 0, .int .i64 0] (w.heap.size + 1 + 1) (by simp))
  have HBl := Lib.hid ((((Below.refl w.heap.size w).alloc (Nat.le_refl _) (.cells #[.bool true, .slice A n c, .int .i64 E] 69)).alloc (by simp) (.cells #[.bool true, .slice A' n' c', .int .i64 E'] 69)).alloc (by simp; omega) (.cells #[.bool false, .slice none 0 0, .int .i64 0] 69))
  obtain ⟨i0, hi, hz0, hz1, hz2⟩ := info_parts info_i64
  clear h h' hn hn' hE hE' hf hfb hends hN
  go_enter Try.func74, Try.ntmps74
  obtain ⟨a0, a1, a2⟩ := cells3 HX.out
  obtain ⟨b0, b1, b2⟩ := cells3 HY.out
  go_wp2_with fail
  refine (HEn.out _).mono ?_
  rintro e w1 ⟨rfl, hb⟩
  have HX1 := Lib.hid (HX.out.next hb)
  have HY1 := Lib.hid (HY.out.next hb)
  have HR1 := Lib.hid (HR.out.next hb)
  have HB1 := Lib.hid (below_nx HBl.out hb)
  have HZ1 := Lib.hid (show w.heap.size + 1 + 1 + 1 ≤ w1.heap.size by have := HR1.out.lt; omega)
  clear hb a0 a1 a2 b0 b1 b2
  obtain ⟨a0, a1, a2⟩ := cells3 HX1.out
  obtain ⟨b0, b1, b2⟩ := cells3 HY1.out
  go_wp2_with fail
  clear a0 a1 a2 b0 b1 b2
  go_loopw [7, 8, 10] (fun L cc p wr => ∃ (q cr : Nat) (Ls : List Nat), q ≤ N ∧ cr ≤ 1 ∧ cc = .int .i64 (cr : Int) ∧ p = .int .i64 (fr + (q : Int)) ∧ Hid (Ls.length = q ∧ Digs 65536 Ls ∧ ofd 65536 Ls + 65536 ^ q * cr = dsum l E fr q + dsum l' E' fr q) ∧ wr.ownsRow (w.heap.size + 1 + 1 + 1) 3 1 L q (ints Ls) ∧ Below w.heap.size w wr ∧ Blk wr w.heap.size 69 #[.bool true, .slice A n c, .int .i64 E] ∧ Blk wr (w.heap.size + 1) 69 #[.bool true, .slice A' n' c', .int .i64 E'] ∧ Blk wr (w.heap.size + 1 + 1) 69 #[.bool false, .slice none 0 0, .int .i64 0] ∧ w.heap.size + 1 + 1 + 1 ≤ wr.heap.size) (fun _ _ p _ => (tz - intOf p).toNat)
  case atStart => exact ⟨0, 0, [], Nat.zero_le _, by omega, rfl, by simp, Lib.hid ⟨rfl, Digs.nil _, by simp [ofd, dsum]⟩, World.ownsRow_nil _ _ _ _, HB1.out, HX1.out, HY1.out, HR1.out, HZ1.out⟩
  case round =>
    obtain ⟨q, cr, Ls, hq, hcr, rfl, rfl, HL, hO, hB, hX, hY, hR, hZ⟩ := hrel
    have HOr := Lib.hid hO
    have HBr := Lib.hid hB
    have HXr := Lib.hid hX
    have HYr := Lib.hid hY
    have HRr := Lib.hid hR
    have HZr := Lib.hid hZ
    clear hO hB hX hY hR hZ
    by_cases hlt : q < N
    · have hq1 : q + 1 ≤ 4294967296 := by have := HNb.out; omega
      obtain ⟨P, hP⟩ : ∃ P, fr + (q : Int) = P := ⟨_, rfl⟩
      have hp1 : wrap64 (P + 1) = P + 1 := wrap64_in (by have := HFb.out; have := HNn.out; omega)
      have hlt2 : decide (P < tz) = true := by simp; have := HNn.out; omega
      have HPb := Lib.hid (show P.natAbs ≤ 1099511627776 by have := HFb.out; have := HNn.out; omega)
      have HPP := Lib.hid hP
      rw [hP]
      obtain ⟨x, hx⟩ : ∃ x, dat l E P = x := ⟨_, rfl⟩
      obtain ⟨y, hy⟩ : ∃ y, dat l' E' P = y := ⟨_, rfl⟩
      have hx6 : x < 65536 := by rw [← hx]; exact dat_lt HS.out.1 _ _
      have hy6 : y < 65536 := by rw [← hy]; exact dat_lt HS.out.2 _ _
      have HAtP := Lib.hid (fun W (hb : Below w.heap.size w W) => HAt.out W hb P HPb.out)
      have HAtP' := Lib.hid (fun W (hb : Below w.heap.size w W) => HAt'.out W hb P HPb.out)
      rw [hx] at HAtP
      rw [hy] at HAtP'
      have HXY := Lib.hid (And.intro hx hy)
      clear hx hy hP
      obtain ⟨a0, a1, a2⟩ := cells3 HXr.out
      obtain ⟨b0, b1, b2⟩ := cells3 HYr.out
      obtain ⟨U, V, V1, V2, hU, hV, wU, wV, m1, m2, m3, m4, m5, hV21, hV1l, hV1, hV2⟩ := carry_facts hcr hx6 hy6
      have HStep := Lib.hid (show (Ls ++ [V1]).length = q + 1 ∧ Digs 65536 (Ls ++ [V1]) ∧ ofd 65536 (Ls ++ [V1]) + 65536 ^ (q + 1) * V2 = dsum l E fr (q + 1) + dsum l' E' fr (q + 1) from by
        refine ⟨by simp [HL.out.1], Digs.append HL.out.2.1 (Digs.cons hV1l (Digs.nil _)), ?_⟩
        have := carry_step (x := x) (y := y) HL.out.1 HL.out.2.2
        rw [hV1, hV2] at this
        rw [dsum, dsum, HPP.out, HXY.out.1, HXY.out.2]
        exact this)
      have HLT := Lib.hid (And.intro hlt hq)
      have HV21 := Lib.hid hV21
      clear hV1 hV2 hlt hcr hV1l hV21 hx6 hy6
      go_wp2_with fail
      refine wp_region_inv [48, 49, 50, 51, 52, 53, 54, 55, 56, 8] (fun d s W => (d 0 = true → s 48 = .int .i64 (cr : Int)) ∧ (d 1 = true → s 49 = .agg #[.bool true, .slice A n c, .int .i64 E]) ∧ (d 2 = true → s 50 = .int .i64 P) ∧ (d 3 = true → s 51 = .int .i64 (x : Int)) ∧ (d 4 = true → s 52 = .int .i64 (U : Int)) ∧ (d 5 = true → s 53 = .agg #[.bool true, .slice A' n' c', .int .i64 E']) ∧ (d 6 = true → s 54 = .int .i64 P) ∧ (d 7 = true → s 55 = .int .i64 (y : Int)) ∧ (d 8 = true → s 56 = .int .i64 (V : Int)) ∧ (d 9 = true → s 8 = .int .i64 (V : Int)) ∧ (d 9 = true → d 0 = true) ∧ (d 9 = false → s 8 = .int .i64 (cr : Int)) ∧ Below wr.heap.size wr W)
        rfl (by kernel_rfl) ?_ ?_ ?_
      · exact ⟨by simp, by simp, by simp, by simp, by simp, by simp, by simp, by simp, by simp, by simp, by simp, fun _ => by simp, (Below.refl _ _).drew⟩
      · refine ⟨?_, ?_, ?_, ?_, ?_, ?_, ?_, ?_, ?_, ?_, trivial⟩
        all_goals
          intro d s W hJ hfr hd hdep
          simp only [List.mem_cons, forall_eq_or_imp, List.not_mem_nil, false_implies, implies_true, and_true, Region.binds] at hdep
          have f2 := hfr 2 (by decide)
          have f3 := hfr 3 (by decide)
          have f10 := hfr 10 (by decide)
          simp at f2 f3 f10 hdep
          obtain ⟨h0, h1, h2, h3, h4, h5, h6, h7, h8, h9, x0, x1, hT⟩ := hJ
        · unfold OpSteps
          have e8 : d 9 = false := by
            cases h : d 9
            · rfl
            · have := x0 h; simp [hd] at this
          have f8 := x1 e8
          simp [go_sem, evS, f8]
          exact ⟨fun _ => by simp [sput], fun h => by simpa [sput] using h1 (by simpa [did] using h), fun h => by simpa [sput] using h2 (by simpa [did] using h), fun h => by simpa [sput] using h3 (by simpa [did] using h), fun h => by simpa [sput] using h4 (by simpa [did] using h), fun h => by simpa [sput] using h5 (by simpa [did] using h), fun h => by simpa [sput] using h6 (by simpa [did] using h), fun h => by simpa [sput] using h7 (by simpa [did] using h), fun h => by simpa [sput] using h8 (by simpa [did] using h), fun h => by simpa [sput] using h9 (by simpa [did] using h), fun h => by have := x0 (by simpa [did] using h); simp [did, this], fun h => by simpa [sput] using x1 (by simpa [did] using h), hT⟩
        · unfold OpSteps
          obtain ⟨p0, p1, p2⟩ := cells3 (HXr.out.below hT HXr.out.lt)
          simp [go_sem, evS, f2, p0, p1, p2]
          exact ⟨fun h => by simpa [sput] using h0 (by simpa [did] using h), fun _ => by simp [sput], fun h => by simpa [sput] using h2 (by simpa [did] using h), fun h => by simpa [sput] using h3 (by simpa [did] using h), fun h => by simpa [sput] using h4 (by simpa [did] using h), fun h => by simpa [sput] using h5 (by simpa [did] using h), fun h => by simpa [sput] using h6 (by simpa [did] using h), fun h => by simpa [sput] using h7 (by simpa [did] using h), fun h => by simpa [sput] using h8 (by simpa [did] using h), fun h => by simpa [sput] using h9 (by simpa [did] using h), fun h => by have := x0 (by simpa [did] using h); simp [did, this], fun h => by simpa [sput] using x1 (by simpa [did] using h), hT⟩
        · unfold OpSteps
          simp [go_sem, evS, f10]
          exact ⟨fun h => by simpa [sput] using h0 (by simpa [did] using h), fun h => by simpa [sput] using h1 (by simpa [did] using h), fun _ => by simp [sput], fun h => by simpa [sput] using h3 (by simpa [did] using h), fun h => by simpa [sput] using h4 (by simpa [did] using h), fun h => by simpa [sput] using h5 (by simpa [did] using h), fun h => by simpa [sput] using h6 (by simpa [did] using h), fun h => by simpa [sput] using h7 (by simpa [did] using h), fun h => by simpa [sput] using h8 (by simpa [did] using h), fun h => by simpa [sput] using h9 (by simpa [did] using h), fun h => by have := x0 (by simpa [did] using h); simp [did, this], fun h => by simpa [sput] using x1 (by simpa [did] using h), hT⟩
        · have fz1 := h1 (by simp [hdep])
          have fz2 := h2 (by simp [hdep])
          unfold OpSteps
          simp [go_sem, evS, fz1, fz2]
          refine (HAtP.out W (below_nx HBr.out hT)).mono ?_
          rintro e W' ⟨rfl, hb⟩
          refine ⟨_, rfl, ?_⟩
          exact ⟨fun h => by simpa [sput] using h0 (by simpa [did] using h), fun h => by simpa [sput] using h1 (by simpa [did] using h), fun h => by simpa [sput] using h2 (by simpa [did] using h), fun _ => by simp [sput], fun h => by simpa [sput] using h4 (by simpa [did] using h), fun h => by simpa [sput] using h5 (by simpa [did] using h), fun h => by simpa [sput] using h6 (by simpa [did] using h), fun h => by simpa [sput] using h7 (by simpa [did] using h), fun h => by simpa [sput] using h8 (by simpa [did] using h), fun h => by simpa [sput] using h9 (by simpa [did] using h), fun h => by have := x0 (by simpa [did] using h); simp [did, this], fun h => by simpa [sput] using x1 (by simpa [did] using h), below_nx hT hb⟩
        · have fz0 := h0 (by simp [hdep])
          have fz3 := h3 (by simp [hdep])
          unfold OpSteps
          simp [go_sem, evS, fz0, fz3, hU, wU]
          exact ⟨fun h => by simpa [sput] using h0 (by simpa [did] using h), fun h => by simpa [sput] using h1 (by simpa [did] using h), fun h => by simpa [sput] using h2 (by simpa [did] using h), fun h => by simpa [sput] using h3 (by simpa [did] using h), fun _ => by simp [sput], fun h => by simpa [sput] using h5 (by simpa [did] using h), fun h => by simpa [sput] using h6 (by simpa [did] using h), fun h => by simpa [sput] using h7 (by simpa [did] using h), fun h => by simpa [sput] using h8 (by simpa [did] using h), fun h => by simpa [sput] using h9 (by simpa [did] using h), fun h => by have := x0 (by simpa [did] using h); simp [did, this], fun h => by simpa [sput] using x1 (by simpa [did] using h), hT⟩
        · unfold OpSteps
          obtain ⟨p0, p1, p2⟩ := cells3 (HYr.out.below hT HYr.out.lt)
          simp [go_sem, evS, f3, p0, p1, p2]
          exact ⟨fun h => by simpa [sput] using h0 (by simpa [did] using h), fun h => by simpa [sput] using h1 (by simpa [did] using h), fun h => by simpa [sput] using h2 (by simpa [did] using h), fun h => by simpa [sput] using h3 (by simpa [did] using h), fun h => by simpa [sput] using h4 (by simpa [did] using h), fun _ => by simp [sput], fun h => by simpa [sput] using h6 (by simpa [did] using h), fun h => by simpa [sput] using h7 (by simpa [did] using h), fun h => by simpa [sput] using h8 (by simpa [did] using h), fun h => by simpa [sput] using h9 (by simpa [did] using h), fun h => by have := x0 (by simpa [did] using h); simp [did, this], fun h => by simpa [sput] using x1 (by simpa [did] using h), hT⟩
        · unfold OpSteps
          simp [go_sem, evS, f10]
          exact ⟨fun h => by simpa [sput] using h0 (by simpa [did] using h), fun h => by simpa [sput] using h1 (by simpa [did] using h), fun h => by simpa [sput] using h2 (by simpa [did] using h), fun h => by simpa [sput] using h3 (by simpa [did] using h), fun h => by simpa [sput] using h4 (by simpa [did] using h), fun h => by simpa [sput] using h5 (by simpa [did] using h), fun _ => by simp [sput], fun h => by simpa [sput] using h7 (by simpa [did] using h), fun h => by simpa [sput] using h8 (by simpa [did] using h), fun h => by simpa [sput] using h9 (by simpa [did] using h), fun h => by have := x0 (by simpa [did] using h); simp [did, this], fun h => by simpa [sput] using x1 (by simpa [did] using h), hT⟩
        · have fz5 := h5 (by simp [hdep])
          have fz6 := h6 (by simp [hdep])
          unfold OpSteps
          simp [go_sem, evS, fz5, fz6]
          refine (HAtP'.out W (below_nx HBr.out hT)).mono ?_
          rintro e W' ⟨rfl, hb⟩
          refine ⟨_, rfl, ?_⟩
          exact ⟨fun h => by simpa [sput] using h0 (by simpa [did] using h), fun h => by simpa [sput] using h1 (by simpa [did] using h), fun h => by simpa [sput] using h2 (by simpa [did] using h), fun h => by simpa [sput] using h3 (by simpa [did] using h), fun h => by simpa [sput] using h4 (by simpa [did] using h), fun h => by simpa [sput] using h5 (by simpa [did] using h), fun h => by simpa [sput] using h6 (by simpa [did] using h), fun _ => by simp [sput], fun h => by simpa [sput] using h8 (by simpa [did] using h), fun h => by simpa [sput] using h9 (by simpa [did] using h), fun h => by have := x0 (by simpa [did] using h); simp [did, this], fun h => by simpa [sput] using x1 (by simpa [did] using h), below_nx hT hb⟩
        · have fz4 := h4 (by simp [hdep])
          have fz7 := h7 (by simp [hdep])
          unfold OpSteps
          simp [go_sem, evS, fz4, fz7, hV, wV]
          exact ⟨fun h => by simpa [sput] using h0 (by simpa [did] using h), fun h => by simpa [sput] using h1 (by simpa [did] using h), fun h => by simpa [sput] using h2 (by simpa [did] using h), fun h => by simpa [sput] using h3 (by simpa [did] using h), fun h => by simpa [sput] using h4 (by simpa [did] using h), fun h => by simpa [sput] using h5 (by simpa [did] using h), fun h => by simpa [sput] using h6 (by simpa [did] using h), fun h => by simpa [sput] using h7 (by simpa [did] using h), fun _ => by simp [sput], fun h => by simpa [sput] using h9 (by simpa [did] using h), fun h => by have := x0 (by simpa [did] using h); simp [did, this], fun h => by simpa [sput] using x1 (by simpa [did] using h), hT⟩
        · have fz8 := h8 (by simp [hdep])
          unfold OpSteps
          simp [go_sem, evS, fz8]
          exact ⟨fun h => by simpa [sput] using h0 (by simpa [did] using h), fun h => by simpa [sput] using h1 (by simpa [did] using h), fun h => by simpa [sput] using h2 (by simpa [did] using h), fun h => by simpa [sput] using h3 (by simpa [did] using h), fun h => by simpa [sput] using h4 (by simpa [did] using h), fun h => by simpa [sput] using h5 (by simpa [did] using h), fun h => by simpa [sput] using h6 (by simpa [did] using h), fun h => by simpa [sput] using h7 (by simpa [did] using h), fun h => by simpa [sput] using h8 (by simpa [did] using h), fun _ => by simp [sput], fun _ => by first | simp [did, hdep] | (have := x0 (by simp [hdep]); simp [did, this]), fun h => by simp [did] at h, hT⟩
      intro d s W hJ hd
      obtain ⟨h0, h1, h2, h3, h4, h5, h6, h7, h8, h9, x0, x1, hT⟩ := hJ
      have hs8 := h9 (hd 9 (by decide))
      have hb : Below wr.heap.size wr W := hT
      clear h0 h1 h2 h3 h4 h5 h6 h7 h8 h9 x0 x1 hT hd
      simp [setAll, hs8]
      clear hs8
      generalize s 48 = s48
      generalize s 49 = s49
      generalize s 50 = s50
      generalize s 51 = s51
      generalize s 52 = s52
      generalize s 53 = s53
      generalize s 54 = s54
      generalize s 55 = s55
      generalize s 56 = s56
      have HX2 := Lib.hid (HXr.out.next hb)
      have HY2 := Lib.hid (HYr.out.next hb)
      have HR2 := Lib.hid (HRr.out.next hb)
      have HB2 := Lib.hid (below_nx HBr.out hb)
      have HZ2 := Lib.hid (Nat.le_trans HZr.out hb.size)
      have HO2 := Lib.hid (ownsRow_below HOr.out hb)
      clear hb a0 a1 a2 b0 b1 b2
      generalize W = w2 at *
      clear hU hV wU wV hlt2
      have HOaa := Lib.hid (HO2.out.alloc (.cells #[.int .i64 (V1 : Int)] 3))
      go_wp2_with (at_builtin; refine wpList_append_own _ rfl _ _ 27 rfl (w.heap.size + 1 + 1 + 1) 3 i0 (.int .i64 0) 1 8 Try.underlying27 hi hz0 hz1 hz2 rfl (by decide) _ q (ints Ls) rfl HOaa.out ⟨w2.heap.size, 0, none⟩ 1 1 [.int .i64 (V1 : Int)] rfl rfl ?c1a (by intro u hu; simp at hu; subst hu; rfl) ?c3a ?c4a ?c5a ?_)
      case c1a => exact cell_one_new _ _ _
      case c3a => unfold maxLen; have := HNb.out; omega
      case c4a => have := HNb.out; omega
      case c5a => (try simp); have := HZ2.out; omega
      intro v' w3 hown' hgrow _
      have hal := (Below.refl w2.heap.size w2).alloc (Nat.le_refl _) (.cells #[.int .i64 (V1 : Int)] 3)
      have hgx : ∀ k, k < w.heap.size + 1 + 1 + 1 → w3.heap[k]? = w2.heap[k]? := fun k hk => (hgrow.block k (by simp; have := HZ2.out; omega) (fun e => by have := (HOaa.out.lt k e.symm).1; omega)).trans (hal.block k (by have := HZ2.out; omega))
      have HX3 := Lib.hid (show Blk w3 w.heap.size 69 _ from (hgx _ (by omega)).trans HX2.out)
      have HY3 := Lib.hid (show Blk w3 (w.heap.size + 1) 69 _ from (hgx _ (by omega)).trans HY2.out)
      have HR3 := Lib.hid (show Blk w3 (w.heap.size + 1 + 1) 69 _ from (hgx _ (by omega)).trans HR2.out)
      have HB3 := Lib.hid ((below_nx HB2.out hal).grown hgrow (by simp; have := HZ2.out; omega) (fun k hk => by have := (HOaa.out.lt k hk).1; omega))
      have HZ3 := Lib.hid (show w.heap.size + 1 + 1 + 1 ≤ w3.heap.size by have := hgrow.size; have := HZ2.out; simp at *; omega)
      have HO3 := Lib.hid (show w3.ownsRow (w.heap.size + 1 + 1 + 1) 3 1 v' (q + 1) (ints (Ls ++ [V1])) by rw [ints_snoc]; exact hown')
      clear hown' hgrow hal hgx
      go_wp2_with fail
      go_roundw
      case rel => exact ⟨q + 1, V2, Ls ++ [V1], by have := HLT.out.1; omega, HV21.out, by rw [m5], congrArg (Value.int .i64) (by have := HPP.out; rw [hp1]; omega), HStep, HO3.out, HB3.out, HX3.out, HY3.out, HR3.out, HZ3.out⟩
      case measure => have := HPP.out; have := HLT.out.1; have := HNn.out; simp [intOf]; omega
    · obtain rfl : q = N := by omega
      have hlt2 : decide (fr + (q : Int) < tz) = false := by simp; have := HNn.out; omega
      have HX2 := HXr
      have HY2 := HYr
      have HR2 := HRr
      have HB2 := HBr
      have HZ2 := HZr
      have HO2 := HOr
      generalize wr = w2 at *
      have HOab := Lib.hid (HO2.out.alloc (.cells #[.int .i64 (cr : Int)] 3))
      go_wp2_with (at_builtin; refine wpList_append_own _ rfl _ _ 27 rfl (w.heap.size + 1 + 1 + 1) 3 i0 (.int .i64 0) 1 8 Try.underlying27 hi hz0 hz1 hz2 rfl (by decide) _ q (ints Ls) rfl HOab.out ⟨w2.heap.size, 0, none⟩ 1 1 [.int .i64 (cr : Int)] rfl rfl ?c1b (by intro u hu; simp at hu; subst hu; rfl) ?c3b ?c4b ?c5b ?_)
      case c1b => exact cell_one_new _ _ _
      case c3b => unfold maxLen; have := HNb.out; omega
      case c4b => have := HNb.out; omega
      case c5b => (try simp); have := HZ2.out; omega
      intro v' w3 hown' hgrow _
      have hal := (Below.refl w2.heap.size w2).alloc (Nat.le_refl _) (.cells #[.int .i64 (cr : Int)] 3)
      have hgx : ∀ k, k < w.heap.size + 1 + 1 + 1 → w3.heap[k]? = w2.heap[k]? := fun k hk => (hgrow.block k (by simp; have := HZ2.out; omega) (fun e => by have := (HOab.out.lt k e.symm).1; omega)).trans (hal.block k (by have := HZ2.out; omega))
      have HX3 := Lib.hid (show Blk w3 w.heap.size 69 _ from (hgx _ (by omega)).trans HX2.out)
      have HY3 := Lib.hid (show Blk w3 (w.heap.size + 1) 69 _ from (hgx _ (by omega)).trans HY2.out)
      have HR3 := Lib.hid (show Blk w3 (w.heap.size + 1 + 1) 69 _ from (hgx _ (by omega)).trans HR2.out)
      have HB3 := Lib.hid ((below_nx HB2.out hal).grown hgrow (by simp; have := HZ2.out; omega) (fun k hk => by have := (HOab.out.lt k hk).1; omega))
      have HZ3 := Lib.hid (show w.heap.size + 1 + 1 + 1 ≤ w3.heap.size by have := hgrow.size; have := HZ2.out; simp at *; omega)
      have HO3 := Lib.hid (show w3.ownsRow (w.heap.size + 1 + 1 + 1) 3 1 v' (q + 1) (ints (Ls ++ [cr])) by rw [ints_snoc]; exact hown')
      clear hown' hgrow hal hgx

      have hrd := own_rd (n := q + 1) HO3.out (Digs.append HL.out.2.1 (Digs.cons (show cr < 65536 by omega) (Digs.nil _)))
      obtain ⟨Am, cm, rfl, hRm, hcm⟩ := hrd
      have HRm := Lib.hid hRm
      have Hcm := Lib.hid hcm
      clear hRm hcm
      go_wp2_with fail
      refine (made_any true Am (q + 1) cm _ fr _ HRm.out (by have := HNb.out; omega) (by have := HFb.out; omega) Hcm.out).mono ?_
      rintro e w4 ⟨ng4, A4, n4, c4, E4, L4, rfl, hR4, hN4, hd4, hb⟩
      have HR4 := Lib.hid (HR3.out.next hb)
      have f0 := HR4.out.frozen 0
      have f1 := HR4.out.frozen 1
      have f2 := HR4.out.frozen 2
      obtain ⟨r0, r1, r2⟩ := cells3 HR4.out
      have HB4 := Lib.hid (below_nx HB3.out hb)
      have HRd4 := Lib.hid hR4
      have HN4 := Lib.hid hN4
      have HD4 := Lib.hid (show rdy ng4 L4 E4 = rdy true l E + rdy true l' E' from hd4.trans (by rw [HV1.out, HV2.out, dy_add, sgd_add]; exact add_val true HL.out.1 HL.out.2.2))
      clear hb hR4 hN4 hd4
      go_wp2_with fail
      obtain ⟨q0, q1, q2⟩ := cells3 (Blk.store3 HR4.out (.bool ng4) (.slice A4 n4 c4) (.int .i64 E4))
      exact bodyPost_ret (v := .agg #[.bool ng4, .slice A4 n4 c4, .int .i64 E4]) (by simp [results, Try.results74, go_sem, q0, q1, q2]) rfl (retR_done HR4.out HRd4.out HN4.out HD4.out HB4.out (by omega))

set_option maxRecDepth 100000 in
set_option maxHeartbeats 8000000 in
theorem radd_z1 (A : Option Addr) (n c : Nat) (l : List Nat) (E : Int) (A' : Option Addr) (n' c' : Nat) (l' : List Nat) (E' : Int) (w : World) (h : Rd w A n c l) (h' : Rd w A' n' c' l') (hn : n ≤ 536870912) (hn' : n' ≤ 536870912) (hE : E.natAbs ≤ 1073741824) (hE' : E'.natAbs ≤ 1073741824) (h0 : n = 0) :
    Calls Try.prog 74 #[.agg #[.bool false, .slice A n c, .int .i64 E], .agg #[.bool true, .slice A' n' c', .int .i64 E']] w (RetR (rdy false l E + rdy true l' E') w) := by
  obtain ⟨⟨fr, tz⟩, hf⟩ : ∃ ft, endsF n E n' E' = ft := ⟨_, rfl⟩
  have hfb := ends_bd hf hn hn' hE hE'
  have hends := ends_ok hf
  obtain ⟨N, hN⟩ : ∃ N : Nat, fr + N = tz := ⟨(tz - fr).toNat, by have := hends.2.2; omega⟩
  have HEn := Lib.hid (fun W => rends_any false A n c E true A' n' c' E' W (by omega) (by omega) (by omega) (by omega) fr tz hf)
  have HAt := Lib.hid (fun W (hb : Below w.heap.size w W) p (hp : p.natAbs ≤ 1099511627776) => rdat_any false A n c l E p W (h.below hb) (by omega) (by omega) hp)
  have HAt' := Lib.hid (fun W (hb : Below w.heap.size w W) p (hp : p.natAbs ≤ 1099511627776) => rdat_any true A' n' c' l' E' p W (h'.below hb) (by omega) (by omega) hp)
  have HS := Lib.hid (And.intro h.2.2.2.1 h'.2.2.2.1)
  have Hh := Lib.hid (And.intro h h')
  have HV1 := Lib.hid (show rdy false l E = dy (sgd false (dsum l E fr N)) (16 * fr) from dsum_val (by rw [← h.1]; exact hends.1) hN false)
  have HV2 := Lib.hid (show rdy true l' E' = dy (sgd true (dsum l' E' fr N)) (16 * fr) from dsum_val (by rw [← h'.1]; exact hends.2.1) hN true)
  have HFb := Lib.hid hfb
  have HNn := Lib.hid hN
  have HNb := Lib.hid (show N ≤ 4294967296 by omega)
  have HX := Lib.hid (((Blk.new w 69 #[.bool false, .slice A n c, .int .i64 E]).alloc (.cells #[.bool true, .slice A' n' c', .int .i64 E'] 69)).alloc (.cells #[.bool false, .slice none 0 0, .int .i64 0] 69))
  have HY := Lib.hid ((Blk.new_ (w.alloc (.cells #[.bool false, .slice A n c, .int .i64 E] 69)) 69 #[.bool true, .slice A' n' c', .int .i64 E'] (w.heap.size + 1) (by simp)).alloc (.cells #[.bool false, .slice none 0 0, .int .i64 0] 69))
  have HR := Lib.hid (Blk.new_ ((w.alloc (.cells #[.bool false, .slice A n c, .int .i64 E] 69)).alloc (.cells #[.bool true, .slice A' n' c', .int .i64 E'] 69)) 69 #[.bool false, .slice none 0 0, .int .i64 0] (w.heap.size + 1 + 1) (by simp))
  have HBl := Lib.hid ((((Below.refl w.heap.size w).alloc (Nat.le_refl _) (.cells #[.bool false, .slice A n c, .int .i64 E] 69)).alloc (by simp) (.cells #[.bool true, .slice A' n' c', .int .i64 E'] 69)).alloc (by simp; omega) (.cells #[.bool false, .slice none 0 0, .int .i64 0] 69))
  obtain ⟨i0, hi, hz0, hz1, hz2⟩ := info_parts info_i64
  have hn0 : ((n : Int) == 0) = true := by simp [h0]
  have hl0 : l = [] := List.eq_nil_of_length_eq_zero (by rw [← h.1]; exact h0)
  have HL0 := Lib.hid (show ∀ q, dsum l E fr q = 0 from fun q => by rw [hl0]; exact dsum_nil _ _ q)
  clear h0 hl0
  clear h h' hn hn' hE hE' hf hfb hends hN
  go_enter Try.func74, Try.ntmps74
  obtain ⟨a0, a1, a2⟩ := cells3 HX.out
  obtain ⟨b0, b1, b2⟩ := cells3 HY.out
  go_wp2_with fail
  refine (HEn.out _).mono ?_
  rintro e w1 ⟨rfl, hb⟩
  have HX1 := Lib.hid (HX.out.next hb)
  have HY1 := Lib.hid (HY.out.next hb)
  have HR1 := Lib.hid (HR.out.next hb)
  have HB1 := Lib.hid (below_nx HBl.out hb)
  have HZ1 := Lib.hid (show w.heap.size + 1 + 1 + 1 ≤ w1.heap.size by have := HR1.out.lt; omega)
  clear hb a0 a1 a2 b0 b1 b2
  obtain ⟨a0, a1, a2⟩ := cells3 HX1.out
  obtain ⟨b0, b1, b2⟩ := cells3 HY1.out
  go_wp2_with fail
  clear a0 a1 a2 b0 b1 b2
  go_loopw [7, 8, 10] (fun L cc p wr => ∃ (q cr : Nat) (Ls : List Nat), q ≤ N ∧ cr ≤ 1 ∧ cc = .int .i64 (cr : Int) ∧ p = .int .i64 (fr + (q : Int)) ∧ Hid (Ls.length = q ∧ Digs 65536 Ls ∧ ofd 65536 Ls + 65536 ^ q * cr = dsum l E fr q + dsum l' E' fr q) ∧ wr.ownsRow (w.heap.size + 1 + 1 + 1) 3 1 L q (ints Ls) ∧ Below w.heap.size w wr ∧ Blk wr w.heap.size 69 #[.bool false, .slice A n c, .int .i64 E] ∧ Blk wr (w.heap.size + 1) 69 #[.bool true, .slice A' n' c', .int .i64 E'] ∧ Blk wr (w.heap.size + 1 + 1) 69 #[.bool false, .slice none 0 0, .int .i64 0] ∧ w.heap.size + 1 + 1 + 1 ≤ wr.heap.size) (fun _ _ p _ => (tz - intOf p).toNat)
  case atStart => exact ⟨0, 0, [], Nat.zero_le _, by omega, rfl, by simp, Lib.hid ⟨rfl, Digs.nil _, by simp [ofd, dsum]⟩, World.ownsRow_nil _ _ _ _, HB1.out, HX1.out, HY1.out, HR1.out, HZ1.out⟩
  case round =>
    obtain ⟨q, cr, Ls, hq, hcr, rfl, rfl, HL, hO, hB, hX, hY, hR, hZ⟩ := hrel
    have HOr := Lib.hid hO
    have HBr := Lib.hid hB
    have HXr := Lib.hid hX
    have HYr := Lib.hid hY
    have HRr := Lib.hid hR
    have HZr := Lib.hid hZ
    clear hO hB hX hY hR hZ
    by_cases hlt : q < N
    · have hq1 : q + 1 ≤ 4294967296 := by have := HNb.out; omega
      obtain ⟨P, hP⟩ : ∃ P, fr + (q : Int) = P := ⟨_, rfl⟩
      have hp1 : wrap64 (P + 1) = P + 1 := wrap64_in (by have := HFb.out; have := HNn.out; omega)
      have hlt2 : decide (P < tz) = true := by simp; have := HNn.out; omega
      have HPb := Lib.hid (show P.natAbs ≤ 1099511627776 by have := HFb.out; have := HNn.out; omega)
      have HPP := Lib.hid hP
      rw [hP]
      obtain ⟨x, hx⟩ : ∃ x, dat l E P = x := ⟨_, rfl⟩
      obtain ⟨y, hy⟩ : ∃ y, dat l' E' P = y := ⟨_, rfl⟩
      have hx6 : x < 65536 := by rw [← hx]; exact dat_lt HS.out.1 _ _
      have hy6 : y < 65536 := by rw [← hy]; exact dat_lt HS.out.2 _ _
      have HAtP := Lib.hid (fun W (hb : Below w.heap.size w W) => HAt.out W hb P HPb.out)
      have HAtP' := Lib.hid (fun W (hb : Below w.heap.size w W) => HAt'.out W hb P HPb.out)
      rw [hx] at HAtP
      rw [hy] at HAtP'
      have HXY := Lib.hid (And.intro hx hy)
      clear hx hy hP
      obtain ⟨a0, a1, a2⟩ := cells3 HXr.out
      obtain ⟨b0, b1, b2⟩ := cells3 HYr.out
      obtain ⟨U, V, V1, V2, hU, hV, wU, wV, m1, m2, m3, m4, m5, hV21, hV1l, hV1, hV2⟩ := carry_facts hcr hx6 hy6
      have HStep := Lib.hid (show (Ls ++ [V1]).length = q + 1 ∧ Digs 65536 (Ls ++ [V1]) ∧ ofd 65536 (Ls ++ [V1]) + 65536 ^ (q + 1) * V2 = dsum l E fr (q + 1) + dsum l' E' fr (q + 1) from by
        refine ⟨by simp [HL.out.1], Digs.append HL.out.2.1 (Digs.cons hV1l (Digs.nil _)), ?_⟩
        have := carry_step (x := x) (y := y) HL.out.1 HL.out.2.2
        rw [hV1, hV2] at this
        rw [dsum, dsum, HPP.out, HXY.out.1, HXY.out.2]
        exact this)
      have HLT := Lib.hid (And.intro hlt hq)
      have HV21 := Lib.hid hV21
      clear hV1 hV2 hlt hcr hV1l hV21 hx6 hy6
      go_wp2_with fail
      refine wp_region_inv [48, 49, 50, 51, 52, 53, 54, 55, 56, 8] (fun d s W => (d 0 = true → s 48 = .int .i64 (cr : Int)) ∧ (d 1 = true → s 49 = .agg #[.bool false, .slice A n c, .int .i64 E]) ∧ (d 2 = true → s 50 = .int .i64 P) ∧ (d 3 = true → s 51 = .int .i64 (x : Int)) ∧ (d 4 = true → s 52 = .int .i64 (U : Int)) ∧ (d 5 = true → s 53 = .agg #[.bool true, .slice A' n' c', .int .i64 E']) ∧ (d 6 = true → s 54 = .int .i64 P) ∧ (d 7 = true → s 55 = .int .i64 (y : Int)) ∧ (d 8 = true → s 56 = .int .i64 (V : Int)) ∧ (d 9 = true → s 8 = .int .i64 (V : Int)) ∧ (d 9 = true → d 0 = true) ∧ (d 9 = false → s 8 = .int .i64 (cr : Int)) ∧ Below wr.heap.size wr W)
        rfl (by kernel_rfl) ?_ ?_ ?_
      · exact ⟨by simp, by simp, by simp, by simp, by simp, by simp, by simp, by simp, by simp, by simp, by simp, fun _ => by simp, (Below.refl _ _).drew⟩
      · refine ⟨?_, ?_, ?_, ?_, ?_, ?_, ?_, ?_, ?_, ?_, trivial⟩
        all_goals
          intro d s W hJ hfr hd hdep
          simp only [List.mem_cons, forall_eq_or_imp, List.not_mem_nil, false_implies, implies_true, and_true, Region.binds] at hdep
          have f2 := hfr 2 (by decide)
          have f3 := hfr 3 (by decide)
          have f10 := hfr 10 (by decide)
          simp at f2 f3 f10 hdep
          obtain ⟨h0, h1, h2, h3, h4, h5, h6, h7, h8, h9, x0, x1, hT⟩ := hJ
        · unfold OpSteps
          have e8 : d 9 = false := by
            cases h : d 9
            · rfl
            · have := x0 h; simp [hd] at this
          have f8 := x1 e8
          simp [go_sem, evS, f8]
          exact ⟨fun _ => by simp [sput], fun h => by simpa [sput] using h1 (by simpa [did] using h), fun h => by simpa [sput] using h2 (by simpa [did] using h), fun h => by simpa [sput] using h3 (by simpa [did] using h), fun h => by simpa [sput] using h4 (by simpa [did] using h), fun h => by simpa [sput] using h5 (by simpa [did] using h), fun h => by simpa [sput] using h6 (by simpa [did] using h), fun h => by simpa [sput] using h7 (by simpa [did] using h), fun h => by simpa [sput] using h8 (by simpa [did] using h), fun h => by simpa [sput] using h9 (by simpa [did] using h), fun h => by have := x0 (by simpa [did] using h); simp [did, this], fun h => by simpa [sput] using x1 (by simpa [did] using h), hT⟩
        · unfold OpSteps
          obtain ⟨p0, p1, p2⟩ := cells3 (HXr.out.below hT HXr.out.lt)
          simp [go_sem, evS, f2, p0, p1, p2]
          exact ⟨fun h => by simpa [sput] using h0 (by simpa [did] using h), fun _ => by simp [sput], fun h => by simpa [sput] using h2 (by simpa [did] using h), fun h => by simpa [sput] using h3 (by simpa [did] using h), fun h => by simpa [sput] using h4 (by simpa [did] using h), fun h => by simpa [sput] using h5 (by simpa [did] using h), fun h => by simpa [sput] using h6 (by simpa [did] using h), fun h => by simpa [sput] using h7 (by simpa [did] using h), fun h => by simpa [sput] using h8 (by simpa [did] using h), fun h => by simpa [sput] using h9 (by simpa [did] using h), fun h => by have := x0 (by simpa [did] using h); simp [did, this], fun h => by simpa [sput] using x1 (by simpa [did] using h), hT⟩
        · unfold OpSteps
          simp [go_sem, evS, f10]
          exact ⟨fun h => by simpa [sput] using h0 (by simpa [did] using h), fun h => by simpa [sput] using h1 (by simpa [did] using h), fun _ => by simp [sput], fun h => by simpa [sput] using h3 (by simpa [did] using h), fun h => by simpa [sput] using h4 (by simpa [did] using h), fun h => by simpa [sput] using h5 (by simpa [did] using h), fun h => by simpa [sput] using h6 (by simpa [did] using h), fun h => by simpa [sput] using h7 (by simpa [did] using h), fun h => by simpa [sput] using h8 (by simpa [did] using h), fun h => by simpa [sput] using h9 (by simpa [did] using h), fun h => by have := x0 (by simpa [did] using h); simp [did, this], fun h => by simpa [sput] using x1 (by simpa [did] using h), hT⟩
        · have fz1 := h1 (by simp [hdep])
          have fz2 := h2 (by simp [hdep])
          unfold OpSteps
          simp [go_sem, evS, fz1, fz2]
          refine (HAtP.out W (below_nx HBr.out hT)).mono ?_
          rintro e W' ⟨rfl, hb⟩
          refine ⟨_, rfl, ?_⟩
          exact ⟨fun h => by simpa [sput] using h0 (by simpa [did] using h), fun h => by simpa [sput] using h1 (by simpa [did] using h), fun h => by simpa [sput] using h2 (by simpa [did] using h), fun _ => by simp [sput], fun h => by simpa [sput] using h4 (by simpa [did] using h), fun h => by simpa [sput] using h5 (by simpa [did] using h), fun h => by simpa [sput] using h6 (by simpa [did] using h), fun h => by simpa [sput] using h7 (by simpa [did] using h), fun h => by simpa [sput] using h8 (by simpa [did] using h), fun h => by simpa [sput] using h9 (by simpa [did] using h), fun h => by have := x0 (by simpa [did] using h); simp [did, this], fun h => by simpa [sput] using x1 (by simpa [did] using h), below_nx hT hb⟩
        · have fz0 := h0 (by simp [hdep])
          have fz3 := h3 (by simp [hdep])
          unfold OpSteps
          simp [go_sem, evS, fz0, fz3, hU, wU]
          exact ⟨fun h => by simpa [sput] using h0 (by simpa [did] using h), fun h => by simpa [sput] using h1 (by simpa [did] using h), fun h => by simpa [sput] using h2 (by simpa [did] using h), fun h => by simpa [sput] using h3 (by simpa [did] using h), fun _ => by simp [sput], fun h => by simpa [sput] using h5 (by simpa [did] using h), fun h => by simpa [sput] using h6 (by simpa [did] using h), fun h => by simpa [sput] using h7 (by simpa [did] using h), fun h => by simpa [sput] using h8 (by simpa [did] using h), fun h => by simpa [sput] using h9 (by simpa [did] using h), fun h => by have := x0 (by simpa [did] using h); simp [did, this], fun h => by simpa [sput] using x1 (by simpa [did] using h), hT⟩
        · unfold OpSteps
          obtain ⟨p0, p1, p2⟩ := cells3 (HYr.out.below hT HYr.out.lt)
          simp [go_sem, evS, f3, p0, p1, p2]
          exact ⟨fun h => by simpa [sput] using h0 (by simpa [did] using h), fun h => by simpa [sput] using h1 (by simpa [did] using h), fun h => by simpa [sput] using h2 (by simpa [did] using h), fun h => by simpa [sput] using h3 (by simpa [did] using h), fun h => by simpa [sput] using h4 (by simpa [did] using h), fun _ => by simp [sput], fun h => by simpa [sput] using h6 (by simpa [did] using h), fun h => by simpa [sput] using h7 (by simpa [did] using h), fun h => by simpa [sput] using h8 (by simpa [did] using h), fun h => by simpa [sput] using h9 (by simpa [did] using h), fun h => by have := x0 (by simpa [did] using h); simp [did, this], fun h => by simpa [sput] using x1 (by simpa [did] using h), hT⟩
        · unfold OpSteps
          simp [go_sem, evS, f10]
          exact ⟨fun h => by simpa [sput] using h0 (by simpa [did] using h), fun h => by simpa [sput] using h1 (by simpa [did] using h), fun h => by simpa [sput] using h2 (by simpa [did] using h), fun h => by simpa [sput] using h3 (by simpa [did] using h), fun h => by simpa [sput] using h4 (by simpa [did] using h), fun h => by simpa [sput] using h5 (by simpa [did] using h), fun _ => by simp [sput], fun h => by simpa [sput] using h7 (by simpa [did] using h), fun h => by simpa [sput] using h8 (by simpa [did] using h), fun h => by simpa [sput] using h9 (by simpa [did] using h), fun h => by have := x0 (by simpa [did] using h); simp [did, this], fun h => by simpa [sput] using x1 (by simpa [did] using h), hT⟩
        · have fz5 := h5 (by simp [hdep])
          have fz6 := h6 (by simp [hdep])
          unfold OpSteps
          simp [go_sem, evS, fz5, fz6]
          refine (HAtP'.out W (below_nx HBr.out hT)).mono ?_
          rintro e W' ⟨rfl, hb⟩
          refine ⟨_, rfl, ?_⟩
          exact ⟨fun h => by simpa [sput] using h0 (by simpa [did] using h), fun h => by simpa [sput] using h1 (by simpa [did] using h), fun h => by simpa [sput] using h2 (by simpa [did] using h), fun h => by simpa [sput] using h3 (by simpa [did] using h), fun h => by simpa [sput] using h4 (by simpa [did] using h), fun h => by simpa [sput] using h5 (by simpa [did] using h), fun h => by simpa [sput] using h6 (by simpa [did] using h), fun _ => by simp [sput], fun h => by simpa [sput] using h8 (by simpa [did] using h), fun h => by simpa [sput] using h9 (by simpa [did] using h), fun h => by have := x0 (by simpa [did] using h); simp [did, this], fun h => by simpa [sput] using x1 (by simpa [did] using h), below_nx hT hb⟩
        · have fz4 := h4 (by simp [hdep])
          have fz7 := h7 (by simp [hdep])
          unfold OpSteps
          simp [go_sem, evS, fz4, fz7, hV, wV]
          exact ⟨fun h => by simpa [sput] using h0 (by simpa [did] using h), fun h => by simpa [sput] using h1 (by simpa [did] using h), fun h => by simpa [sput] using h2 (by simpa [did] using h), fun h => by simpa [sput] using h3 (by simpa [did] using h), fun h => by simpa [sput] using h4 (by simpa [did] using h), fun h => by simpa [sput] using h5 (by simpa [did] using h), fun h => by simpa [sput] using h6 (by simpa [did] using h), fun h => by simpa [sput] using h7 (by simpa [did] using h), fun _ => by simp [sput], fun h => by simpa [sput] using h9 (by simpa [did] using h), fun h => by have := x0 (by simpa [did] using h); simp [did, this], fun h => by simpa [sput] using x1 (by simpa [did] using h), hT⟩
        · have fz8 := h8 (by simp [hdep])
          unfold OpSteps
          simp [go_sem, evS, fz8]
          exact ⟨fun h => by simpa [sput] using h0 (by simpa [did] using h), fun h => by simpa [sput] using h1 (by simpa [did] using h), fun h => by simpa [sput] using h2 (by simpa [did] using h), fun h => by simpa [sput] using h3 (by simpa [did] using h), fun h => by simpa [sput] using h4 (by simpa [did] using h), fun h => by simpa [sput] using h5 (by simpa [did] using h), fun h => by simpa [sput] using h6 (by simpa [did] using h), fun h => by simpa [sput] using h7 (by simpa [did] using h), fun h => by simpa [sput] using h8 (by simpa [did] using h), fun _ => by simp [sput], fun _ => by first | simp [did, hdep] | (have := x0 (by simp [hdep]); simp [did, this]), fun h => by simp [did] at h, hT⟩
      intro d s W hJ hd
      obtain ⟨h0, h1, h2, h3, h4, h5, h6, h7, h8, h9, x0, x1, hT⟩ := hJ
      have hs8 := h9 (hd 9 (by decide))
      have hb : Below wr.heap.size wr W := hT
      clear h0 h1 h2 h3 h4 h5 h6 h7 h8 h9 x0 x1 hT hd
      simp [setAll, hs8]
      clear hs8
      generalize s 48 = s48
      generalize s 49 = s49
      generalize s 50 = s50
      generalize s 51 = s51
      generalize s 52 = s52
      generalize s 53 = s53
      generalize s 54 = s54
      generalize s 55 = s55
      generalize s 56 = s56
      have HX2 := Lib.hid (HXr.out.next hb)
      have HY2 := Lib.hid (HYr.out.next hb)
      have HR2 := Lib.hid (HRr.out.next hb)
      have HB2 := Lib.hid (below_nx HBr.out hb)
      have HZ2 := Lib.hid (Nat.le_trans HZr.out hb.size)
      have HO2 := Lib.hid (ownsRow_below HOr.out hb)
      clear hb a0 a1 a2 b0 b1 b2
      generalize W = w2 at *
      clear hU hV wU wV hlt2
      have HOaa := Lib.hid (HO2.out.alloc (.cells #[.int .i64 (V1 : Int)] 3))
      go_wp2_with (at_builtin; refine wpList_append_own _ rfl _ _ 27 rfl (w.heap.size + 1 + 1 + 1) 3 i0 (.int .i64 0) 1 8 Try.underlying27 hi hz0 hz1 hz2 rfl (by decide) _ q (ints Ls) rfl HOaa.out ⟨w2.heap.size, 0, none⟩ 1 1 [.int .i64 (V1 : Int)] rfl rfl ?c1a (by intro u hu; simp at hu; subst hu; rfl) ?c3a ?c4a ?c5a ?_)
      case c1a => exact cell_one_new _ _ _
      case c3a => unfold maxLen; have := HNb.out; omega
      case c4a => have := HNb.out; omega
      case c5a => (try simp); have := HZ2.out; omega
      intro v' w3 hown' hgrow _
      have hal := (Below.refl w2.heap.size w2).alloc (Nat.le_refl _) (.cells #[.int .i64 (V1 : Int)] 3)
      have hgx : ∀ k, k < w.heap.size + 1 + 1 + 1 → w3.heap[k]? = w2.heap[k]? := fun k hk => (hgrow.block k (by simp; have := HZ2.out; omega) (fun e => by have := (HOaa.out.lt k e.symm).1; omega)).trans (hal.block k (by have := HZ2.out; omega))
      have HX3 := Lib.hid (show Blk w3 w.heap.size 69 _ from (hgx _ (by omega)).trans HX2.out)
      have HY3 := Lib.hid (show Blk w3 (w.heap.size + 1) 69 _ from (hgx _ (by omega)).trans HY2.out)
      have HR3 := Lib.hid (show Blk w3 (w.heap.size + 1 + 1) 69 _ from (hgx _ (by omega)).trans HR2.out)
      have HB3 := Lib.hid ((below_nx HB2.out hal).grown hgrow (by simp; have := HZ2.out; omega) (fun k hk => by have := (HOaa.out.lt k hk).1; omega))
      have HZ3 := Lib.hid (show w.heap.size + 1 + 1 + 1 ≤ w3.heap.size by have := hgrow.size; have := HZ2.out; simp at *; omega)
      have HO3 := Lib.hid (show w3.ownsRow (w.heap.size + 1 + 1 + 1) 3 1 v' (q + 1) (ints (Ls ++ [V1])) by rw [ints_snoc]; exact hown')
      clear hown' hgrow hal hgx
      go_wp2_with fail
      go_roundw
      case rel => exact ⟨q + 1, V2, Ls ++ [V1], by have := HLT.out.1; omega, HV21.out, by rw [m5], congrArg (Value.int .i64) (by have := HPP.out; rw [hp1]; omega), HStep, HO3.out, HB3.out, HX3.out, HY3.out, HR3.out, HZ3.out⟩
      case measure => have := HPP.out; have := HLT.out.1; have := HNn.out; simp [intOf]; omega
    · obtain rfl : q = N := by omega
      have hlt2 : decide (fr + (q : Int) < tz) = false := by simp; have := HNn.out; omega
      have HX2 := HXr
      have HY2 := HYr
      have HR2 := HRr
      have HB2 := HBr
      have HZ2 := HZr
      have HO2 := HOr
      generalize wr = w2 at *
      have HOab := Lib.hid (HO2.out.alloc (.cells #[.int .i64 (cr : Int)] 3))
      go_wp2_with (at_builtin; refine wpList_append_own _ rfl _ _ 27 rfl (w.heap.size + 1 + 1 + 1) 3 i0 (.int .i64 0) 1 8 Try.underlying27 hi hz0 hz1 hz2 rfl (by decide) _ q (ints Ls) rfl HOab.out ⟨w2.heap.size, 0, none⟩ 1 1 [.int .i64 (cr : Int)] rfl rfl ?c1b (by intro u hu; simp at hu; subst hu; rfl) ?c3b ?c4b ?c5b ?_)
      case c1b => exact cell_one_new _ _ _
      case c3b => unfold maxLen; have := HNb.out; omega
      case c4b => have := HNb.out; omega
      case c5b => (try simp); have := HZ2.out; omega
      intro v' w3 hown' hgrow _
      have hal := (Below.refl w2.heap.size w2).alloc (Nat.le_refl _) (.cells #[.int .i64 (cr : Int)] 3)
      have hgx : ∀ k, k < w.heap.size + 1 + 1 + 1 → w3.heap[k]? = w2.heap[k]? := fun k hk => (hgrow.block k (by simp; have := HZ2.out; omega) (fun e => by have := (HOab.out.lt k e.symm).1; omega)).trans (hal.block k (by have := HZ2.out; omega))
      have HX3 := Lib.hid (show Blk w3 w.heap.size 69 _ from (hgx _ (by omega)).trans HX2.out)
      have HY3 := Lib.hid (show Blk w3 (w.heap.size + 1) 69 _ from (hgx _ (by omega)).trans HY2.out)
      have HR3 := Lib.hid (show Blk w3 (w.heap.size + 1 + 1) 69 _ from (hgx _ (by omega)).trans HR2.out)
      have HB3 := Lib.hid ((below_nx HB2.out hal).grown hgrow (by simp; have := HZ2.out; omega) (fun k hk => by have := (HOab.out.lt k hk).1; omega))
      have HZ3 := Lib.hid (show w.heap.size + 1 + 1 + 1 ≤ w3.heap.size by have := hgrow.size; have := HZ2.out; simp at *; omega)
      have HO3 := Lib.hid (show w3.ownsRow (w.heap.size + 1 + 1 + 1) 3 1 v' (q + 1) (ints (Ls ++ [cr])) by rw [ints_snoc]; exact hown')
      clear hown' hgrow hal hgx

      have hrd := own_rd (n := q + 1) HO3.out (Digs.append HL.out.2.1 (Digs.cons (show cr < 65536 by omega) (Digs.nil _)))
      obtain ⟨Am, cm, rfl, hRm, hcm⟩ := hrd
      have HRm := Lib.hid hRm
      have Hcm := Lib.hid hcm
      clear hRm hcm
      go_wp2_with fail
      refine (made_any true Am (q + 1) cm _ fr _ HRm.out (by have := HNb.out; omega) (by have := HFb.out; omega) Hcm.out).mono ?_
      rintro e w4 ⟨ng4, A4, n4, c4, E4, L4, rfl, hR4, hN4, hd4, hb⟩
      have HR4 := Lib.hid (HR3.out.next hb)
      have f0 := HR4.out.frozen 0
      have f1 := HR4.out.frozen 1
      have f2 := HR4.out.frozen 2
      obtain ⟨r0, r1, r2⟩ := cells3 HR4.out
      have HB4 := Lib.hid (below_nx HB3.out hb)
      have HRd4 := Lib.hid hR4
      have HN4 := Lib.hid hN4
      have HD4 := Lib.hid (show rdy ng4 L4 E4 = rdy false l E + rdy true l' E' from hd4.trans (by rw [HV1.out, HV2.out, dy_add, HL0.out, sgd_zero, Int.zero_add]; have := add_val true (fr := fr) HL.out.1 HL.out.2.2; rw [HL0.out, Nat.zero_add] at this; exact this))
      clear hb hR4 hN4 hd4
      go_wp2_with fail
      obtain ⟨q0, q1, q2⟩ := cells3 (Blk.store3 HR4.out (.bool ng4) (.slice A4 n4 c4) (.int .i64 E4))
      exact bodyPost_ret (v := .agg #[.bool ng4, .slice A4 n4 c4, .int .i64 E4]) (by simp [results, Try.results74, go_sem, q0, q1, q2]) rfl (retR_done HR4.out HRd4.out HN4.out HD4.out HB4.out (by omega))

set_option maxRecDepth 100000 in
set_option maxHeartbeats 8000000 in
theorem radd_z2 (A : Option Addr) (n c : Nat) (l : List Nat) (E : Int) (A' : Option Addr) (n' c' : Nat) (l' : List Nat) (E' : Int) (w : World) (h : Rd w A n c l) (h' : Rd w A' n' c' l') (hn : n ≤ 536870912) (hn' : n' ≤ 536870912) (hE : E.natAbs ≤ 1073741824) (hE' : E'.natAbs ≤ 1073741824) (h0 : n' = 0) (h1 : n ≠ 0) :
    Calls Try.prog 74 #[.agg #[.bool true, .slice A n c, .int .i64 E], .agg #[.bool false, .slice A' n' c', .int .i64 E']] w (RetR (rdy true l E + rdy false l' E') w) := by
  obtain ⟨⟨fr, tz⟩, hf⟩ : ∃ ft, endsF n E n' E' = ft := ⟨_, rfl⟩
  have hfb := ends_bd hf hn hn' hE hE'
  have hends := ends_ok hf
  obtain ⟨N, hN⟩ : ∃ N : Nat, fr + N = tz := ⟨(tz - fr).toNat, by have := hends.2.2; omega⟩
  have HEn := Lib.hid (fun W => rends_any true A n c E false A' n' c' E' W (by omega) (by omega) (by omega) (by omega) fr tz hf)
  have HAt := Lib.hid (fun W (hb : Below w.heap.size w W) p (hp : p.natAbs ≤ 1099511627776) => rdat_any true A n c l E p W (h.below hb) (by omega) (by omega) hp)
  have HAt' := Lib.hid (fun W (hb : Below w.heap.size w W) p (hp : p.natAbs ≤ 1099511627776) => rdat_any false A' n' c' l' E' p W (h'.below hb) (by omega) (by omega) hp)
  have HS := Lib.hid (And.intro h.2.2.2.1 h'.2.2.2.1)
  have Hh := Lib.hid (And.intro h h')
  have HV1 := Lib.hid (show rdy true l E = dy (sgd true (dsum l E fr N)) (16 * fr) from dsum_val (by rw [← h.1]; exact hends.1) hN true)
  have HV2 := Lib.hid (show rdy false l' E' = dy (sgd false (dsum l' E' fr N)) (16 * fr) from dsum_val (by rw [← h'.1]; exact hends.2.1) hN false)
  have HFb := Lib.hid hfb
  have HNn := Lib.hid hN
  have HNb := Lib.hid (show N ≤ 4294967296 by omega)
  have HX := Lib.hid (((Blk.new w 69 #[.bool true, .slice A n c, .int .i64 E]).alloc (.cells #[.bool false, .slice A' n' c', .int .i64 E'] 69)).alloc (.cells #[.bool false, .slice none 0 0, .int .i64 0] 69))
  have HY := Lib.hid ((Blk.new_ (w.alloc (.cells #[.bool true, .slice A n c, .int .i64 E] 69)) 69 #[.bool false, .slice A' n' c', .int .i64 E'] (w.heap.size + 1) (by simp)).alloc (.cells #[.bool false, .slice none 0 0, .int .i64 0] 69))
  have HR := Lib.hid (Blk.new_ ((w.alloc (.cells #[.bool true, .slice A n c, .int .i64 E] 69)).alloc (.cells #[.bool false, .slice A' n' c', .int .i64 E'] 69)) 69 #[.bool false, .slice none 0 0, .int .i64 0] (w.heap.size + 1 + 1) (by simp))
  have HBl := Lib.hid ((((Below.refl w.heap.size w).alloc (Nat.le_refl _) (.cells #[.bool true, .slice A n c, .int .i64 E] 69)).alloc (by simp) (.cells #[.bool false, .slice A' n' c', .int .i64 E'] 69)).alloc (by simp; omega) (.cells #[.bool false, .slice none 0 0, .int .i64 0] 69))
  obtain ⟨i0, hi, hz0, hz1, hz2⟩ := info_parts info_i64
  have hn1 : ((n : Int) == 0) = false := by simp; omega
  have hn0 : ((n' : Int) == 0) = true := by simp [h0]
  have hl0 : l' = [] := List.eq_nil_of_length_eq_zero (by rw [← h'.1]; exact h0)
  have HL0 := Lib.hid (show ∀ q, dsum l' E' fr q = 0 from fun q => by rw [hl0]; exact dsum_nil _ _ q)
  clear h0 hl0 h1
  clear h h' hn hn' hE hE' hf hfb hends hN
  go_enter Try.func74, Try.ntmps74
  obtain ⟨a0, a1, a2⟩ := cells3 HX.out
  obtain ⟨b0, b1, b2⟩ := cells3 HY.out
  go_wp2_with fail
  refine (HEn.out _).mono ?_
  rintro e w1 ⟨rfl, hb⟩
  have HX1 := Lib.hid (HX.out.next hb)
  have HY1 := Lib.hid (HY.out.next hb)
  have HR1 := Lib.hid (HR.out.next hb)
  have HB1 := Lib.hid (below_nx HBl.out hb)
  have HZ1 := Lib.hid (show w.heap.size + 1 + 1 + 1 ≤ w1.heap.size by have := HR1.out.lt; omega)
  clear hb a0 a1 a2 b0 b1 b2
  obtain ⟨a0, a1, a2⟩ := cells3 HX1.out
  obtain ⟨b0, b1, b2⟩ := cells3 HY1.out
  go_wp2_with fail
  clear a0 a1 a2 b0 b1 b2
  go_loopw [7, 8, 10] (fun L cc p wr => ∃ (q cr : Nat) (Ls : List Nat), q ≤ N ∧ cr ≤ 1 ∧ cc = .int .i64 (cr : Int) ∧ p = .int .i64 (fr + (q : Int)) ∧ Hid (Ls.length = q ∧ Digs 65536 Ls ∧ ofd 65536 Ls + 65536 ^ q * cr = dsum l E fr q + dsum l' E' fr q) ∧ wr.ownsRow (w.heap.size + 1 + 1 + 1) 3 1 L q (ints Ls) ∧ Below w.heap.size w wr ∧ Blk wr w.heap.size 69 #[.bool true, .slice A n c, .int .i64 E] ∧ Blk wr (w.heap.size + 1) 69 #[.bool false, .slice A' n' c', .int .i64 E'] ∧ Blk wr (w.heap.size + 1 + 1) 69 #[.bool false, .slice none 0 0, .int .i64 0] ∧ w.heap.size + 1 + 1 + 1 ≤ wr.heap.size) (fun _ _ p _ => (tz - intOf p).toNat)
  case atStart => exact ⟨0, 0, [], Nat.zero_le _, by omega, rfl, by simp, Lib.hid ⟨rfl, Digs.nil _, by simp [ofd, dsum]⟩, World.ownsRow_nil _ _ _ _, HB1.out, HX1.out, HY1.out, HR1.out, HZ1.out⟩
  case round =>
    obtain ⟨q, cr, Ls, hq, hcr, rfl, rfl, HL, hO, hB, hX, hY, hR, hZ⟩ := hrel
    have HOr := Lib.hid hO
    have HBr := Lib.hid hB
    have HXr := Lib.hid hX
    have HYr := Lib.hid hY
    have HRr := Lib.hid hR
    have HZr := Lib.hid hZ
    clear hO hB hX hY hR hZ
    by_cases hlt : q < N
    · have hq1 : q + 1 ≤ 4294967296 := by have := HNb.out; omega
      obtain ⟨P, hP⟩ : ∃ P, fr + (q : Int) = P := ⟨_, rfl⟩
      have hp1 : wrap64 (P + 1) = P + 1 := wrap64_in (by have := HFb.out; have := HNn.out; omega)
      have hlt2 : decide (P < tz) = true := by simp; have := HNn.out; omega
      have HPb := Lib.hid (show P.natAbs ≤ 1099511627776 by have := HFb.out; have := HNn.out; omega)
      have HPP := Lib.hid hP
      rw [hP]
      obtain ⟨x, hx⟩ : ∃ x, dat l E P = x := ⟨_, rfl⟩
      obtain ⟨y, hy⟩ : ∃ y, dat l' E' P = y := ⟨_, rfl⟩
      have hx6 : x < 65536 := by rw [← hx]; exact dat_lt HS.out.1 _ _
      have hy6 : y < 65536 := by rw [← hy]; exact dat_lt HS.out.2 _ _
      have HAtP := Lib.hid (fun W (hb : Below w.heap.size w W) => HAt.out W hb P HPb.out)
      have HAtP' := Lib.hid (fun W (hb : Below w.heap.size w W) => HAt'.out W hb P HPb.out)
      rw [hx] at HAtP
      rw [hy] at HAtP'
      have HXY := Lib.hid (And.intro hx hy)
      clear hx hy hP
      obtain ⟨a0, a1, a2⟩ := cells3 HXr.out
      obtain ⟨b0, b1, b2⟩ := cells3 HYr.out
      obtain ⟨U, V, V1, V2, hU, hV, wU, wV, m1, m2, m3, m4, m5, hV21, hV1l, hV1, hV2⟩ := carry_facts hcr hx6 hy6
      have HStep := Lib.hid (show (Ls ++ [V1]).length = q + 1 ∧ Digs 65536 (Ls ++ [V1]) ∧ ofd 65536 (Ls ++ [V1]) + 65536 ^ (q + 1) * V2 = dsum l E fr (q + 1) + dsum l' E' fr (q + 1) from by
        refine ⟨by simp [HL.out.1], Digs.append HL.out.2.1 (Digs.cons hV1l (Digs.nil _)), ?_⟩
        have := carry_step (x := x) (y := y) HL.out.1 HL.out.2.2
        rw [hV1, hV2] at this
        rw [dsum, dsum, HPP.out, HXY.out.1, HXY.out.2]
        exact this)
      have HLT := Lib.hid (And.intro hlt hq)
      have HV21 := Lib.hid hV21
      clear hV1 hV2 hlt hcr hV1l hV21 hx6 hy6
      go_wp2_with fail
      refine wp_region_inv [48, 49, 50, 51, 52, 53, 54, 55, 56, 8] (fun d s W => (d 0 = true → s 48 = .int .i64 (cr : Int)) ∧ (d 1 = true → s 49 = .agg #[.bool true, .slice A n c, .int .i64 E]) ∧ (d 2 = true → s 50 = .int .i64 P) ∧ (d 3 = true → s 51 = .int .i64 (x : Int)) ∧ (d 4 = true → s 52 = .int .i64 (U : Int)) ∧ (d 5 = true → s 53 = .agg #[.bool false, .slice A' n' c', .int .i64 E']) ∧ (d 6 = true → s 54 = .int .i64 P) ∧ (d 7 = true → s 55 = .int .i64 (y : Int)) ∧ (d 8 = true → s 56 = .int .i64 (V : Int)) ∧ (d 9 = true → s 8 = .int .i64 (V : Int)) ∧ (d 9 = true → d 0 = true) ∧ (d 9 = false → s 8 = .int .i64 (cr : Int)) ∧ Below wr.heap.size wr W)
        rfl (by kernel_rfl) ?_ ?_ ?_
      · exact ⟨by simp, by simp, by simp, by simp, by simp, by simp, by simp, by simp, by simp, by simp, by simp, fun _ => by simp, (Below.refl _ _).drew⟩
      · refine ⟨?_, ?_, ?_, ?_, ?_, ?_, ?_, ?_, ?_, ?_, trivial⟩
        all_goals
          intro d s W hJ hfr hd hdep
          simp only [List.mem_cons, forall_eq_or_imp, List.not_mem_nil, false_implies, implies_true, and_true, Region.binds] at hdep
          have f2 := hfr 2 (by decide)
          have f3 := hfr 3 (by decide)
          have f10 := hfr 10 (by decide)
          simp at f2 f3 f10 hdep
          obtain ⟨h0, h1, h2, h3, h4, h5, h6, h7, h8, h9, x0, x1, hT⟩ := hJ
        · unfold OpSteps
          have e8 : d 9 = false := by
            cases h : d 9
            · rfl
            · have := x0 h; simp [hd] at this
          have f8 := x1 e8
          simp [go_sem, evS, f8]
          exact ⟨fun _ => by simp [sput], fun h => by simpa [sput] using h1 (by simpa [did] using h), fun h => by simpa [sput] using h2 (by simpa [did] using h), fun h => by simpa [sput] using h3 (by simpa [did] using h), fun h => by simpa [sput] using h4 (by simpa [did] using h), fun h => by simpa [sput] using h5 (by simpa [did] using h), fun h => by simpa [sput] using h6 (by simpa [did] using h), fun h => by simpa [sput] using h7 (by simpa [did] using h), fun h => by simpa [sput] using h8 (by simpa [did] using h), fun h => by simpa [sput] using h9 (by simpa [did] using h), fun h => by have := x0 (by simpa [did] using h); simp [did, this], fun h => by simpa [sput] using x1 (by simpa [did] using h), hT⟩
        · unfold OpSteps
          obtain ⟨p0, p1, p2⟩ := cells3 (HXr.out.below hT HXr.out.lt)
          simp [go_sem, evS, f2, p0, p1, p2]
          exact ⟨fun h => by simpa [sput] using h0 (by simpa [did] using h), fun _ => by simp [sput], fun h => by simpa [sput] using h2 (by simpa [did] using h), fun h => by simpa [sput] using h3 (by simpa [did] using h), fun h => by simpa [sput] using h4 (by simpa [did] using h), fun h => by simpa [sput] using h5 (by simpa [did] using h), fun h => by simpa [sput] using h6 (by simpa [did] using h), fun h => by simpa [sput] using h7 (by simpa [did] using h), fun h => by simpa [sput] using h8 (by simpa [did] using h), fun h => by simpa [sput] using h9 (by simpa [did] using h), fun h => by have := x0 (by simpa [did] using h); simp [did, this], fun h => by simpa [sput] using x1 (by simpa [did] using h), hT⟩
        · unfold OpSteps
          simp [go_sem, evS, f10]
          exact ⟨fun h => by simpa [sput] using h0 (by simpa [did] using h), fun h => by simpa [sput] using h1 (by simpa [did] using h), fun _ => by simp [sput], fun h => by simpa [sput] using h3 (by simpa [did] using h), fun h => by simpa [sput] using h4 (by simpa [did] using h), fun h => by simpa [sput] using h5 (by simpa [did] using h), fun h => by simpa [sput] using h6 (by simpa [did] using h), fun h => by simpa [sput] using h7 (by simpa [did] using h), fun h => by simpa [sput] using h8 (by simpa [did] using h), fun h => by simpa [sput] using h9 (by simpa [did] using h), fun h => by have := x0 (by simpa [did] using h); simp [did, this], fun h => by simpa [sput] using x1 (by simpa [did] using h), hT⟩
        · have fz1 := h1 (by simp [hdep])
          have fz2 := h2 (by simp [hdep])
          unfold OpSteps
          simp [go_sem, evS, fz1, fz2]
          refine (HAtP.out W (below_nx HBr.out hT)).mono ?_
          rintro e W' ⟨rfl, hb⟩
          refine ⟨_, rfl, ?_⟩
          exact ⟨fun h => by simpa [sput] using h0 (by simpa [did] using h), fun h => by simpa [sput] using h1 (by simpa [did] using h), fun h => by simpa [sput] using h2 (by simpa [did] using h), fun _ => by simp [sput], fun h => by simpa [sput] using h4 (by simpa [did] using h), fun h => by simpa [sput] using h5 (by simpa [did] using h), fun h => by simpa [sput] using h6 (by simpa [did] using h), fun h => by simpa [sput] using h7 (by simpa [did] using h), fun h => by simpa [sput] using h8 (by simpa [did] using h), fun h => by simpa [sput] using h9 (by simpa [did] using h), fun h => by have := x0 (by simpa [did] using h); simp [did, this], fun h => by simpa [sput] using x1 (by simpa [did] using h), below_nx hT hb⟩
        · have fz0 := h0 (by simp [hdep])
          have fz3 := h3 (by simp [hdep])
          unfold OpSteps
          simp [go_sem, evS, fz0, fz3, hU, wU]
          exact ⟨fun h => by simpa [sput] using h0 (by simpa [did] using h), fun h => by simpa [sput] using h1 (by simpa [did] using h), fun h => by simpa [sput] using h2 (by simpa [did] using h), fun h => by simpa [sput] using h3 (by simpa [did] using h), fun _ => by simp [sput], fun h => by simpa [sput] using h5 (by simpa [did] using h), fun h => by simpa [sput] using h6 (by simpa [did] using h), fun h => by simpa [sput] using h7 (by simpa [did] using h), fun h => by simpa [sput] using h8 (by simpa [did] using h), fun h => by simpa [sput] using h9 (by simpa [did] using h), fun h => by have := x0 (by simpa [did] using h); simp [did, this], fun h => by simpa [sput] using x1 (by simpa [did] using h), hT⟩
        · unfold OpSteps
          obtain ⟨p0, p1, p2⟩ := cells3 (HYr.out.below hT HYr.out.lt)
          simp [go_sem, evS, f3, p0, p1, p2]
          exact ⟨fun h => by simpa [sput] using h0 (by simpa [did] using h), fun h => by simpa [sput] using h1 (by simpa [did] using h), fun h => by simpa [sput] using h2 (by simpa [did] using h), fun h => by simpa [sput] using h3 (by simpa [did] using h), fun h => by simpa [sput] using h4 (by simpa [did] using h), fun _ => by simp [sput], fun h => by simpa [sput] using h6 (by simpa [did] using h), fun h => by simpa [sput] using h7 (by simpa [did] using h), fun h => by simpa [sput] using h8 (by simpa [did] using h), fun h => by simpa [sput] using h9 (by simpa [did] using h), fun h => by have := x0 (by simpa [did] using h); simp [did, this], fun h => by simpa [sput] using x1 (by simpa [did] using h), hT⟩
        · unfold OpSteps
          simp [go_sem, evS, f10]
          exact ⟨fun h => by simpa [sput] using h0 (by simpa [did] using h), fun h => by simpa [sput] using h1 (by simpa [did] using h), fun h => by simpa [sput] using h2 (by simpa [did] using h), fun h => by simpa [sput] using h3 (by simpa [did] using h), fun h => by simpa [sput] using h4 (by simpa [did] using h), fun h => by simpa [sput] using h5 (by simpa [did] using h), fun _ => by simp [sput], fun h => by simpa [sput] using h7 (by simpa [did] using h), fun h => by simpa [sput] using h8 (by simpa [did] using h), fun h => by simpa [sput] using h9 (by simpa [did] using h), fun h => by have := x0 (by simpa [did] using h); simp [did, this], fun h => by simpa [sput] using x1 (by simpa [did] using h), hT⟩
        · have fz5 := h5 (by simp [hdep])
          have fz6 := h6 (by simp [hdep])
          unfold OpSteps
          simp [go_sem, evS, fz5, fz6]
          refine (HAtP'.out W (below_nx HBr.out hT)).mono ?_
          rintro e W' ⟨rfl, hb⟩
          refine ⟨_, rfl, ?_⟩
          exact ⟨fun h => by simpa [sput] using h0 (by simpa [did] using h), fun h => by simpa [sput] using h1 (by simpa [did] using h), fun h => by simpa [sput] using h2 (by simpa [did] using h), fun h => by simpa [sput] using h3 (by simpa [did] using h), fun h => by simpa [sput] using h4 (by simpa [did] using h), fun h => by simpa [sput] using h5 (by simpa [did] using h), fun h => by simpa [sput] using h6 (by simpa [did] using h), fun _ => by simp [sput], fun h => by simpa [sput] using h8 (by simpa [did] using h), fun h => by simpa [sput] using h9 (by simpa [did] using h), fun h => by have := x0 (by simpa [did] using h); simp [did, this], fun h => by simpa [sput] using x1 (by simpa [did] using h), below_nx hT hb⟩
        · have fz4 := h4 (by simp [hdep])
          have fz7 := h7 (by simp [hdep])
          unfold OpSteps
          simp [go_sem, evS, fz4, fz7, hV, wV]
          exact ⟨fun h => by simpa [sput] using h0 (by simpa [did] using h), fun h => by simpa [sput] using h1 (by simpa [did] using h), fun h => by simpa [sput] using h2 (by simpa [did] using h), fun h => by simpa [sput] using h3 (by simpa [did] using h), fun h => by simpa [sput] using h4 (by simpa [did] using h), fun h => by simpa [sput] using h5 (by simpa [did] using h), fun h => by simpa [sput] using h6 (by simpa [did] using h), fun h => by simpa [sput] using h7 (by simpa [did] using h), fun _ => by simp [sput], fun h => by simpa [sput] using h9 (by simpa [did] using h), fun h => by have := x0 (by simpa [did] using h); simp [did, this], fun h => by simpa [sput] using x1 (by simpa [did] using h), hT⟩
        · have fz8 := h8 (by simp [hdep])
          unfold OpSteps
          simp [go_sem, evS, fz8]
          exact ⟨fun h => by simpa [sput] using h0 (by simpa [did] using h), fun h => by simpa [sput] using h1 (by simpa [did] using h), fun h => by simpa [sput] using h2 (by simpa [did] using h), fun h => by simpa [sput] using h3 (by simpa [did] using h), fun h => by simpa [sput] using h4 (by simpa [did] using h), fun h => by simpa [sput] using h5 (by simpa [did] using h), fun h => by simpa [sput] using h6 (by simpa [did] using h), fun h => by simpa [sput] using h7 (by simpa [did] using h), fun h => by simpa [sput] using h8 (by simpa [did] using h), fun _ => by simp [sput], fun _ => by first | simp [did, hdep] | (have := x0 (by simp [hdep]); simp [did, this]), fun h => by simp [did] at h, hT⟩
      intro d s W hJ hd
      obtain ⟨h0, h1, h2, h3, h4, h5, h6, h7, h8, h9, x0, x1, hT⟩ := hJ
      have hs8 := h9 (hd 9 (by decide))
      have hb : Below wr.heap.size wr W := hT
      clear h0 h1 h2 h3 h4 h5 h6 h7 h8 h9 x0 x1 hT hd
      simp [setAll, hs8]
      clear hs8
      generalize s 48 = s48
      generalize s 49 = s49
      generalize s 50 = s50
      generalize s 51 = s51
      generalize s 52 = s52
      generalize s 53 = s53
      generalize s 54 = s54
      generalize s 55 = s55
      generalize s 56 = s56
      have HX2 := Lib.hid (HXr.out.next hb)
      have HY2 := Lib.hid (HYr.out.next hb)
      have HR2 := Lib.hid (HRr.out.next hb)
      have HB2 := Lib.hid (below_nx HBr.out hb)
      have HZ2 := Lib.hid (Nat.le_trans HZr.out hb.size)
      have HO2 := Lib.hid (ownsRow_below HOr.out hb)
      clear hb a0 a1 a2 b0 b1 b2
      generalize W = w2 at *
      clear hU hV wU wV hlt2
      have HOaa := Lib.hid (HO2.out.alloc (.cells #[.int .i64 (V1 : Int)] 3))
      go_wp2_with (at_builtin; refine wpList_append_own _ rfl _ _ 27 rfl (w.heap.size + 1 + 1 + 1) 3 i0 (.int .i64 0) 1 8 Try.underlying27 hi hz0 hz1 hz2 rfl (by decide) _ q (ints Ls) rfl HOaa.out ⟨w2.heap.size, 0, none⟩ 1 1 [.int .i64 (V1 : Int)] rfl rfl ?c1a (by intro u hu; simp at hu; subst hu; rfl) ?c3a ?c4a ?c5a ?_)
      case c1a => exact cell_one_new _ _ _
      case c3a => unfold maxLen; have := HNb.out; omega
      case c4a => have := HNb.out; omega
      case c5a => (try simp); have := HZ2.out; omega
      intro v' w3 hown' hgrow _
      have hal := (Below.refl w2.heap.size w2).alloc (Nat.le_refl _) (.cells #[.int .i64 (V1 : Int)] 3)
      have hgx : ∀ k, k < w.heap.size + 1 + 1 + 1 → w3.heap[k]? = w2.heap[k]? := fun k hk => (hgrow.block k (by simp; have := HZ2.out; omega) (fun e => by have := (HOaa.out.lt k e.symm).1; omega)).trans (hal.block k (by have := HZ2.out; omega))
      have HX3 := Lib.hid (show Blk w3 w.heap.size 69 _ from (hgx _ (by omega)).trans HX2.out)
      have HY3 := Lib.hid (show Blk w3 (w.heap.size + 1) 69 _ from (hgx _ (by omega)).trans HY2.out)
      have HR3 := Lib.hid (show Blk w3 (w.heap.size + 1 + 1) 69 _ from (hgx _ (by omega)).trans HR2.out)
      have HB3 := Lib.hid ((below_nx HB2.out hal).grown hgrow (by simp; have := HZ2.out; omega) (fun k hk => by have := (HOaa.out.lt k hk).1; omega))
      have HZ3 := Lib.hid (show w.heap.size + 1 + 1 + 1 ≤ w3.heap.size by have := hgrow.size; have := HZ2.out; simp at *; omega)
      have HO3 := Lib.hid (show w3.ownsRow (w.heap.size + 1 + 1 + 1) 3 1 v' (q + 1) (ints (Ls ++ [V1])) by rw [ints_snoc]; exact hown')
      clear hown' hgrow hal hgx
      go_wp2_with fail
      go_roundw
      case rel => exact ⟨q + 1, V2, Ls ++ [V1], by have := HLT.out.1; omega, HV21.out, by rw [m5], congrArg (Value.int .i64) (by have := HPP.out; rw [hp1]; omega), HStep, HO3.out, HB3.out, HX3.out, HY3.out, HR3.out, HZ3.out⟩
      case measure => have := HPP.out; have := HLT.out.1; have := HNn.out; simp [intOf]; omega
    · obtain rfl : q = N := by omega
      have hlt2 : decide (fr + (q : Int) < tz) = false := by simp; have := HNn.out; omega
      have HX2 := HXr
      have HY2 := HYr
      have HR2 := HRr
      have HB2 := HBr
      have HZ2 := HZr
      have HO2 := HOr
      generalize wr = w2 at *
      have HOab := Lib.hid (HO2.out.alloc (.cells #[.int .i64 (cr : Int)] 3))
      go_wp2_with (at_builtin; refine wpList_append_own _ rfl _ _ 27 rfl (w.heap.size + 1 + 1 + 1) 3 i0 (.int .i64 0) 1 8 Try.underlying27 hi hz0 hz1 hz2 rfl (by decide) _ q (ints Ls) rfl HOab.out ⟨w2.heap.size, 0, none⟩ 1 1 [.int .i64 (cr : Int)] rfl rfl ?c1b (by intro u hu; simp at hu; subst hu; rfl) ?c3b ?c4b ?c5b ?_)
      case c1b => exact cell_one_new _ _ _
      case c3b => unfold maxLen; have := HNb.out; omega
      case c4b => have := HNb.out; omega
      case c5b => (try simp); have := HZ2.out; omega
      intro v' w3 hown' hgrow _
      have hal := (Below.refl w2.heap.size w2).alloc (Nat.le_refl _) (.cells #[.int .i64 (cr : Int)] 3)
      have hgx : ∀ k, k < w.heap.size + 1 + 1 + 1 → w3.heap[k]? = w2.heap[k]? := fun k hk => (hgrow.block k (by simp; have := HZ2.out; omega) (fun e => by have := (HOab.out.lt k e.symm).1; omega)).trans (hal.block k (by have := HZ2.out; omega))
      have HX3 := Lib.hid (show Blk w3 w.heap.size 69 _ from (hgx _ (by omega)).trans HX2.out)
      have HY3 := Lib.hid (show Blk w3 (w.heap.size + 1) 69 _ from (hgx _ (by omega)).trans HY2.out)
      have HR3 := Lib.hid (show Blk w3 (w.heap.size + 1 + 1) 69 _ from (hgx _ (by omega)).trans HR2.out)
      have HB3 := Lib.hid ((below_nx HB2.out hal).grown hgrow (by simp; have := HZ2.out; omega) (fun k hk => by have := (HOab.out.lt k hk).1; omega))
      have HZ3 := Lib.hid (show w.heap.size + 1 + 1 + 1 ≤ w3.heap.size by have := hgrow.size; have := HZ2.out; simp at *; omega)
      have HO3 := Lib.hid (show w3.ownsRow (w.heap.size + 1 + 1 + 1) 3 1 v' (q + 1) (ints (Ls ++ [cr])) by rw [ints_snoc]; exact hown')
      clear hown' hgrow hal hgx

      have hrd := own_rd (n := q + 1) HO3.out (Digs.append HL.out.2.1 (Digs.cons (show cr < 65536 by omega) (Digs.nil _)))
      obtain ⟨Am, cm, rfl, hRm, hcm⟩ := hrd
      have HRm := Lib.hid hRm
      have Hcm := Lib.hid hcm
      clear hRm hcm
      go_wp2_with fail
      refine (made_any true Am (q + 1) cm _ fr _ HRm.out (by have := HNb.out; omega) (by have := HFb.out; omega) Hcm.out).mono ?_
      rintro e w4 ⟨ng4, A4, n4, c4, E4, L4, rfl, hR4, hN4, hd4, hb⟩
      have HR4 := Lib.hid (HR3.out.next hb)
      have f0 := HR4.out.frozen 0
      have f1 := HR4.out.frozen 1
      have f2 := HR4.out.frozen 2
      obtain ⟨r0, r1, r2⟩ := cells3 HR4.out
      have HB4 := Lib.hid (below_nx HB3.out hb)
      have HRd4 := Lib.hid hR4
      have HN4 := Lib.hid hN4
      have HD4 := Lib.hid (show rdy ng4 L4 E4 = rdy true l E + rdy false l' E' from hd4.trans (by rw [HV1.out, HV2.out, dy_add, HL0.out, sgd_zero, Int.add_zero]; have := add_val true (fr := fr) HL.out.1 HL.out.2.2; rw [HL0.out, Nat.add_zero] at this; exact this))
      clear hb hR4 hN4 hd4
      go_wp2_with fail
      obtain ⟨q0, q1, q2⟩ := cells3 (Blk.store3 HR4.out (.bool ng4) (.slice A4 n4 c4) (.int .i64 E4))
      exact bodyPost_ret (v := .agg #[.bool ng4, .slice A4 n4 c4, .int .i64 E4]) (by simp [results, Try.results74, go_sem, q0, q1, q2]) rfl (retR_done HR4.out HRd4.out HN4.out HD4.out HB4.out (by omega))

end Go.Proofs.Ytelpdbkkefpjhaa
