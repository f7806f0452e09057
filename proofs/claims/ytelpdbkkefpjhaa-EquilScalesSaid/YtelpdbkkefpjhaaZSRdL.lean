/-
The document's Add where the signs differ. Conditions: the numbers have at most 2^29 digits, within 2^30 places.
-/
import Derived.Test.YtelpdbkkefpjhaaZSRdK
set_option linter.unusedVariables false
set_option linter.unusedSimpArgs false
set_option linter.unnecessarySimpa false
namespace Go.Proofs.Ytelpdbkkefpjhaa
open Go.RowKit
attribute [local go_sem ↓] Go.wp_at_zero Go.wp_at_succ

theorem borrow_facts0 {x y b : Nat} {V : Int} (h : (x : Int) - (y : Int) - (b : Int) = V) (hbw : y + b ≤ x) (hx : x < 65536) : ∃ z : Nat, x - y - b = z ∧ V = (z : Int) ∧ z < 65536 ∧ decide (V < 0) = false :=
  ⟨x - y - b, rfl, by omega, by omega, decide_eq_false (by omega)⟩
theorem borrow_facts1 {x y b : Nat} {V : Int} (h : (x : Int) - (y : Int) - (b : Int) = V) (hbw : ¬ y + b ≤ x) (hx : x < 65536) (hy : y < 65536) (hb : b ≤ 1) : ∃ z : Nat, x + 65536 - y - b = z ∧ V + 65536 = (z : Int) ∧ wrap64 (z : Int) = (z : Int) ∧ z < 65536 ∧ decide (V < 0) = true ∧ x < y + b ∧ y + b ≤ x + 65536 :=
  ⟨x + 65536 - y - b, rfl, by omega, wrap_small (by omega), by omega, decide_eq_true (by omega), by omega, by omega⟩

set_option maxRecDepth 100000 in
set_option maxHeartbeats 8000000 in
theorem radd_n1 (A : Option Addr) (n c : Nat) (l : List Nat) (E : Int) (A' : Option Addr) (n' c' : Nat) (l' : List Nat) (E' : Int) (w : World) (h : Rd w A n c l) (h' : Rd w A' n' c' l') (hn : n ≤ 536870912) (hn' : n' ≤ 536870912) (hE : E.natAbs ≤ 1073741824) (hE' : E'.natAbs ≤ 1073741824) (h0 : n ≠ 0) (h1 : n' ≠ 0) (fr tz : Int) (N : Nat) (hf : endsF n E n' E' = (fr, tz)) (hN : fr + N = tz) (hC : dsum l' E' fr N ≤ dsum l E fr N) :
    Calls Try.prog 74 #[.agg #[.bool false, .slice A n c, .int .i64 E], .agg #[.bool true, .slice A' n' c', .int .i64 E']] w (RetR (rdy false l E + rdy true l' E') w) := by
  have hfb := ends_bd hf hn hn' hE hE'
  have hends := ends_ok hf
  have HEn := Lib.hid (fun W => rends_any false A n c E true A' n' c' E' W (by omega) (by omega) (by omega) (by omega) fr tz hf)
  have HAt := Lib.hid (fun W (hb : Below w.heap.size w W) p (hp : p.natAbs ≤ 1099511627776) => rdat_any false A n c l E p W (h.below hb) (by omega) (by omega) hp)
  have HAt' := Lib.hid (fun W (hb : Below w.heap.size w W) p (hp : p.natAbs ≤ 1099511627776) => rdat_any true A' n' c' l' E' p W (h'.below hb) (by omega) (by omega) hp)
  have HS := Lib.hid (And.intro h.2.2.2.1 h'.2.2.2.1)
  have Hh := Lib.hid (And.intro h h')
  have HV1 := Lib.hid (show rdy false l E = dy (sgd false (dsum l E fr N)) (16 * fr) from dsum_val (by rw [← h.1]; exact hends.1) hN false)
  have HV2 := Lib.hid (show rdy true l' E' = dy (sgd true (dsum l' E' fr N)) (16 * fr) from dsum_val (by rw [← h'.1]; exact hends.2.1) hN true)
  have HFb := Lib.hid hfb
  have HNn := Lib.hid hN
  have HNb := Lib.hid (show N ≤ 4294967296 by omega)
  have HX := Lib.hid (((Blk.new w 69 #[.bool false, .slice A n c, .int .i64 E]).alloc (.cells #[.bool true, .slice A' n' c', .int .i64 E'] 69)).alloc (.cells #[.bool false, .slice none 0 0, .int .i64 0] 69))
  have HY := Lib.hid ((Blk.new_ (w.alloc (.cells #[.bool false, .slice A n c, .int .i64 E] 69)) 69 #[.bool true, .slice A' n' c', .int .i64 E'] (w.heap.size + 1) (by simp)).alloc (.cells #[.bool false, .slice none 0 0, .int .i64 0] 69))
  have HR := Lib.hid (Blk.new_ ((w.alloc (.cells #[.bool false, .slice A n c, .int .i64 E] 69)).alloc (.cells #[.bool true, .slice A' n' c', .int .i64 E'] 69)) 69 #[.bool false, .slice none 0 0, .int .i64 0] (w.heap.size + 1 + 1) (by simp))
  have HBl := Lib.hid ((((Below.refl w.heap.size w).alloc (Nat.le_refl _) (.cells #[.bool false, .slice A n c, .int .i64 E] 69)).alloc (by simp) (.cells #[.bool true, .slice A' n' c', .int .i64 E'] 69)).alloc (by simp; omega) (.cells #[.bool false, .slice none 0 0, .int .i64 0] 69))
  obtain ⟨i0, hi, hz0, hz1, hz2⟩ := info_parts info_i64
  have HSz := Lib.hid (fun W (hb : Below w.heap.size w W) r hr => rsize_any false A n c l E true A' n' c' l' E' W (h.below hb) (h'.below hb) (by omega) (by omega) (by omega) (by omega) fr tz N hf hN r hr)
  have hn0 : ((n : Int) == 0) = false := by simp; omega
  have hn1 : ((n' : Int) == 0) = false := by simp; omega
  have HC := Lib.hid hC
  obtain ⟨r, hr⟩ : ∃ r : Int, r = if dsum l E fr N < dsum l' E' fr N then -1 else if dsum l E fr N = dsum l' E' fr N then 0 else 1 := ⟨_, rfl⟩
  have HRr0 := Lib.hid hr
  have hr0 : decide (r < 0) = false := by
    rw [if_neg (by omega)] at hr
    split at hr <;> (subst hr; rfl)
  clear h h' hn hn' hE hE' hf hfb hends hN h0 h1 hC hr
  go_enter Try.func74, Try.ntmps74
  obtain ⟨a0, a1, a2⟩ := cells3 HX.out
  obtain ⟨b0, b1, b2⟩ := cells3 HY.out
  go_wp2_with fail
  refine (HEn.out _).mono ?_
  rintro e w1 ⟨rfl, hb⟩
  have HX1 := Lib.hid (HX.out.next hb)
  have HY1 := Lib.hid (HY.out.next hb)
  have HR1 := Lib.hid (HR.out.next hb)
  have HB1 := Lib.hid (below_nx HBl.out hb)
  have HZ1 := Lib.hid (show w.heap.size + 1 + 1 + 1 ≤ w1.heap.size by have := HR1.out.lt; omega)
  clear hb a0 a1 a2 b0 b1 b2
  obtain ⟨a0, a1, a2⟩ := cells3 HX1.out
  obtain ⟨b0, b1, b2⟩ := cells3 HY1.out
  go_wp2_with fail
  clear a0 a1 a2 b0 b1 b2
  refine (HSz.out _ HB1.out _ HRr0.out).mono ?_
  rintro e w2 ⟨rfl, hb⟩
  have HX2 := Lib.hid (HX1.out.next hb)
  have HY2 := Lib.hid (HY1.out.next hb)
  have HR2 := Lib.hid (HR1.out.next hb)
  have HB2 := Lib.hid (below_nx HB1.out hb)
  have HZ2 := Lib.hid (Nat.le_trans HZ1.out hb.size)
  clear hb
  obtain ⟨a0, a1, a2⟩ := cells3 HX2.out
  obtain ⟨b0, b1, b2⟩ := cells3 HY2.out
  go_wp2_with fail
  clear a0 a1 a2 b0 b1 b2
  go_loopw [7, 8, 11] (fun L cc p wr => ∃ (q b : Nat) (Ls : List Nat), q ≤ N ∧ b ≤ 1 ∧ cc = .int .i64 (b : Int) ∧ p = .int .i64 (fr + (q : Int)) ∧ Hid (Ls.length = q ∧ Digs 65536 Ls ∧ ofd 65536 Ls + dsum l' E' fr q = dsum l E fr q + 65536 ^ q * b) ∧ wr.ownsRow (w.heap.size + 1 + 1 + 1) 3 1 L q (ints Ls) ∧ Below w.heap.size w wr ∧ Blk wr w.heap.size 69 #[.bool false, .slice A n c, .int .i64 E] ∧ Blk wr (w.heap.size + 1) 69 #[.bool true, .slice A' n' c', .int .i64 E'] ∧ Blk wr (w.heap.size + 1 + 1) 69 #[.bool false, .slice none 0 0, .int .i64 0] ∧ w.heap.size + 1 + 1 + 1 ≤ wr.heap.size) (fun _ _ p _ => (tz - intOf p).toNat)
  case atStart => exact ⟨0, 0, [], Nat.zero_le _, by omega, rfl, by simp, Lib.hid ⟨rfl, Digs.nil _, by simp [ofd, dsum]⟩, World.ownsRow_nil _ _ _ _, HB2.out, HX2.out, HY2.out, HR2.out, HZ2.out⟩
  case round =>
    clear HX1 HY1 HR1 HB1 HZ1 HX2 HY2 HR2 HB2 HZ2 HSz
    obtain ⟨q, b, Ls, hq, hcr, rfl, rfl, HL, hO, hB, hX, hY, hR, hZ⟩ := hrel
    have HOr := Lib.hid hO
    have HBr := Lib.hid hB
    have HXr := Lib.hid hX
    have HYr := Lib.hid hY
    have HRr := Lib.hid hR
    have HZr := Lib.hid hZ
    clear hO hB hX hY hR hZ
    by_cases hlt : q < N
    · have hq1 : q + 1 ≤ 4294967296 := by have := HNb.out; omega
      obtain ⟨P, hP⟩ : ∃ P, fr + (q : Int) = P := ⟨_, rfl⟩
      have hp1 : wrap64 (P + 1) = P + 1 := wrap64_in (by have := HFb.out; have := HNn.out; omega)
      have hlt2 : decide (P < tz) = true := by simp; have := HNn.out; omega
      have HPb := Lib.hid (show P.natAbs ≤ 1099511627776 by have := HFb.out; have := HNn.out; omega)
      have HPP := Lib.hid hP
      rw [hP]
      obtain ⟨x, hx⟩ : ∃ x, dat l E P = x := ⟨_, rfl⟩
      obtain ⟨y, hy⟩ : ∃ y, dat l' E' P = y := ⟨_, rfl⟩
      have hx6 : x < 65536 := by rw [← hx]; exact dat_lt HS.out.1 _ _
      have hy6 : y < 65536 := by rw [← hy]; exact dat_lt HS.out.2 _ _
      have HAtP := Lib.hid (fun W (hb : Below w.heap.size w W) => HAt.out W hb P HPb.out)
      have HAtP' := Lib.hid (fun W (hb : Below w.heap.size w W) => HAt'.out W hb P HPb.out)
      rw [hx] at HAtP
      rw [hy] at HAtP'
      have HXY := Lib.hid (And.intro hx hy)
      clear hx hy hP
      obtain ⟨a0, a1, a2⟩ := cells3 HXr.out
      obtain ⟨b0, b1, b2⟩ := cells3 HYr.out
      obtain ⟨U, hU⟩ : ∃ U : Int, (x : Int) - (y : Int) = U := ⟨_, rfl⟩
      obtain ⟨V, hV⟩ : ∃ V : Int, U - (b : Int) = V := ⟨_, rfl⟩
      have wU : IntKind.i64.wrap U = U := iwrap_in (by omega)
      have wV : IntKind.i64.wrap V = V := iwrap_in (by omega)
      have HUV := Lib.hid (show (x : Int) - (y : Int) - (b : Int) = V by omega)
      have HLT := Lib.hid (And.intro hlt hq)
      have HB01 := Lib.hid (And.intro hcr (And.intro hx6 hy6))
      clear hlt hcr hx6 hy6
      go_wp2_with fail
      refine wp_region_inv [83, 84, 85, 86, 87, 88, 89, 90, 91, 12] (fun d s W => (d 0 = true → s 83 = .agg #[.bool false, .slice A n c, .int .i64 E]) ∧ (d 1 = true → s 84 = .int .i64 P) ∧ (d 2 = true → s 85 = .int .i64 (x : Int)) ∧ (d 3 = true → s 86 = .agg #[.bool true, .slice A' n' c', .int .i64 E']) ∧ (d 4 = true → s 87 = .int .i64 P) ∧ (d 5 = true → s 88 = .int .i64 (y : Int)) ∧ (d 6 = true → s 89 = .int .i64 U) ∧ (d 7 = true → s 90 = .int .i64 (b : Int)) ∧ (d 8 = true → s 91 = .int .i64 V) ∧ (d 9 = true → s 12 = .int .i64 V) ∧ Below wr.heap.size wr W)
        rfl (by kernel_rfl) ?_ ?_ ?_
      · exact ⟨by simp, by simp, by simp, by simp, by simp, by simp, by simp, by simp, by simp, by simp, (Below.refl _ _).drew⟩
      · refine ⟨?_, ?_, ?_, ?_, ?_, ?_, ?_, ?_, ?_, ?_, trivial⟩
        all_goals
          intro d s W hJ hfr hd hdep
          simp only [List.mem_cons, forall_eq_or_imp, List.not_mem_nil, false_implies, implies_true, and_true, Region.binds] at hdep
          have f2 := hfr 2 (by decide)
          have f3 := hfr 3 (by decide)
          have f8 := hfr 8 (by decide)
          have f11 := hfr 11 (by decide)
          simp at f2 f3 f8 f11 hdep
          obtain ⟨h0, h1, h2, h3, h4, h5, h6, h7, h8, h9, hT⟩ := hJ
        · unfold OpSteps
          obtain ⟨p0, p1, p2⟩ := cells3 (HXr.out.below hT HXr.out.lt)
          simp [go_sem, evS, f2, p0, p1, p2]
          exact ⟨fun _ => by simp [sput], fun h => by simpa [sput] using h1 (by simpa [did] using h), fun h => by simpa [sput] using h2 (by simpa [did] using h), fun h => by simpa [sput] using h3 (by simpa [did] using h), fun h => by simpa [sput] using h4 (by simpa [did] using h), fun h => by simpa [sput] using h5 (by simpa [did] using h), fun h => by simpa [sput] using h6 (by simpa [did] using h), fun h => by simpa [sput] using h7 (by simpa [did] using h), fun h => by simpa [sput] using h8 (by simpa [did] using h), fun h => by simpa [sput] using h9 (by simpa [did] using h), hT⟩
        · unfold OpSteps
          simp [go_sem, evS, f11]
          exact ⟨fun h => by simpa [sput] using h0 (by simpa [did] using h), fun _ => by simp [sput], fun h => by simpa [sput] using h2 (by simpa [did] using h), fun h => by simpa [sput] using h3 (by simpa [did] using h), fun h => by simpa [sput] using h4 (by simpa [did] using h), fun h => by simpa [sput] using h5 (by simpa [did] using h), fun h => by simpa [sput] using h6 (by simpa [did] using h), fun h => by simpa [sput] using h7 (by simpa [did] using h), fun h => by simpa [sput] using h8 (by simpa [did] using h), fun h => by simpa [sput] using h9 (by simpa [did] using h), hT⟩
        · have fz0 := h0 (by simp [hdep])
          have fz1 := h1 (by simp [hdep])
          unfold OpSteps
          simp [go_sem, evS, fz0, fz1]
          refine (HAtP.out W (below_nx HBr.out hT)).mono ?_
          rintro e W' ⟨rfl, hb⟩
          refine ⟨_, rfl, ?_⟩
          exact ⟨fun h => by simpa [sput] using h0 (by simpa [did] using h), fun h => by simpa [sput] using h1 (by simpa [did] using h), fun _ => by simp [sput], fun h => by simpa [sput] using h3 (by simpa [did] using h), fun h => by simpa [sput] using h4 (by simpa [did] using h), fun h => by simpa [sput] using h5 (by simpa [did] using h), fun h => by simpa [sput] using h6 (by simpa [did] using h), fun h => by simpa [sput] using h7 (by simpa [did] using h), fun h => by simpa [sput] using h8 (by simpa [did] using h), fun h => by simpa [sput] using h9 (by simpa [did] using h), below_nx hT hb⟩
        · unfold OpSteps
          obtain ⟨p0, p1, p2⟩ := cells3 (HYr.out.below hT HYr.out.lt)
          simp [go_sem, evS, f3, p0, p1, p2]
          exact ⟨fun h => by simpa [sput] using h0 (by simpa [did] using h), fun h => by simpa [sput] using h1 (by simpa [did] using h), fun h => by simpa [sput] using h2 (by simpa [did] using h), fun _ => by simp [sput], fun h => by simpa [sput] using h4 (by simpa [did] using h), fun h => by simpa [sput] using h5 (by simpa [did] using h), fun h => by simpa [sput] using h6 (by simpa [did] using h), fun h => by simpa [sput] using h7 (by simpa [did] using h), fun h => by simpa [sput] using h8 (by simpa [did] using h), fun h => by simpa [sput] using h9 (by simpa [did] using h), hT⟩
        · unfold OpSteps
          simp [go_sem, evS, f11]
          exact ⟨fun h => by simpa [sput] using h0 (by simpa [did] using h), fun h => by simpa [sput] using h1 (by simpa [did] using h), fun h => by simpa [sput] using h2 (by simpa [did] using h), fun h => by simpa [sput] using h3 (by simpa [did] using h), fun _ => by simp [sput], fun h => by simpa [sput] using h5 (by simpa [did] using h), fun h => by simpa [sput] using h6 (by simpa [did] using h), fun h => by simpa [sput] using h7 (by simpa [did] using h), fun h => by simpa [sput] using h8 (by simpa [did] using h), fun h => by simpa [sput] using h9 (by simpa [did] using h), hT⟩
        · have fz3 := h3 (by simp [hdep])
          have fz4 := h4 (by simp [hdep])
          unfold OpSteps
          simp [go_sem, evS, fz3, fz4]
          refine (HAtP'.out W (below_nx HBr.out hT)).mono ?_
          rintro e W' ⟨rfl, hb⟩
          refine ⟨_, rfl, ?_⟩
          exact ⟨fun h => by simpa [sput] using h0 (by simpa [did] using h), fun h => by simpa [sput] using h1 (by simpa [did] using h), fun h => by simpa [sput] using h2 (by simpa [did] using h), fun h => by simpa [sput] using h3 (by simpa [did] using h), fun h => by simpa [sput] using h4 (by simpa [did] using h), fun _ => by simp [sput], fun h => by simpa [sput] using h6 (by simpa [did] using h), fun h => by simpa [sput] using h7 (by simpa [did] using h), fun h => by simpa [sput] using h8 (by simpa [did] using h), fun h => by simpa [sput] using h9 (by simpa [did] using h), below_nx hT hb⟩
        · have fz2 := h2 (by simp [hdep])
          have fz5 := h5 (by simp [hdep])
          unfold OpSteps
          simp [go_sem, evS, fz2, fz5, hU, wU]
          exact ⟨fun h => by simpa [sput] using h0 (by simpa [did] using h), fun h => by simpa [sput] using h1 (by simpa [did] using h), fun h => by simpa [sput] using h2 (by simpa [did] using h), fun h => by simpa [sput] using h3 (by simpa [did] using h), fun h => by simpa [sput] using h4 (by simpa [did] using h), fun h => by simpa [sput] using h5 (by simpa [did] using h), fun _ => by simp [sput], fun h => by simpa [sput] using h7 (by simpa [did] using h), fun h => by simpa [sput] using h8 (by simpa [did] using h), fun h => by simpa [sput] using h9 (by simpa [did] using h), hT⟩
        · unfold OpSteps
          simp [go_sem, evS, f8]
          exact ⟨fun h => by simpa [sput] using h0 (by simpa [did] using h), fun h => by simpa [sput] using h1 (by simpa [did] using h), fun h => by simpa [sput] using h2 (by simpa [did] using h), fun h => by simpa [sput] using h3 (by simpa [did] using h), fun h => by simpa [sput] using h4 (by simpa [did] using h), fun h => by simpa [sput] using h5 (by simpa [did] using h), fun h => by simpa [sput] using h6 (by simpa [did] using h), fun _ => by simp [sput], fun h => by simpa [sput] using h8 (by simpa [did] using h), fun h => by simpa [sput] using h9 (by simpa [did] using h), hT⟩
        · have fz6 := h6 (by simp [hdep])
          have fz7 := h7 (by simp [hdep])
          unfold OpSteps
          simp [go_sem, evS, fz6, fz7, hV, wV]
          exact ⟨fun h => by simpa [sput] using h0 (by simpa [did] using h), fun h => by simpa [sput] using h1 (by simpa [did] using h), fun h => by simpa [sput] using h2 (by simpa [did] using h), fun h => by simpa [sput] using h3 (by simpa [did] using h), fun h => by simpa [sput] using h4 (by simpa [did] using h), fun h => by simpa [sput] using h5 (by simpa [did] using h), fun h => by simpa [sput] using h6 (by simpa [did] using h), fun h => by simpa [sput] using h7 (by simpa [did] using h), fun _ => by simp [sput], fun h => by simpa [sput] using h9 (by simpa [did] using h), hT⟩
        · have fz8 := h8 (by simp [hdep])
          unfold OpSteps
          simp [go_sem, evS, fz8]
          exact ⟨fun h => by simpa [sput] using h0 (by simpa [did] using h), fun h => by simpa [sput] using h1 (by simpa [did] using h), fun h => by simpa [sput] using h2 (by simpa [did] using h), fun h => by simpa [sput] using h3 (by simpa [did] using h), fun h => by simpa [sput] using h4 (by simpa [did] using h), fun h => by simpa [sput] using h5 (by simpa [did] using h), fun h => by simpa [sput] using h6 (by simpa [did] using h), fun h => by simpa [sput] using h7 (by simpa [did] using h), fun h => by simpa [sput] using h8 (by simpa [did] using h), fun _ => by simp [sput], hT⟩
      intro d s W hJ hd
      obtain ⟨h0, h1, h2, h3, h4, h5, h6, h7, h8, h9, hT⟩ := hJ
      have hs12 := h9 (hd 9 (by decide))
      have hb : Below wr.heap.size wr W := hT
      clear h0 h1 h2 h3 h4 h5 h6 h7 h8 h9 hT hd
      simp [setAll, hs12]
      clear hs12
      generalize s 83 = s83
      generalize s 84 = s84
      generalize s 85 = s85
      generalize s 86 = s86
      generalize s 87 = s87
      generalize s 88 = s88
      generalize s 89 = s89
      generalize s 90 = s90
      generalize s 91 = s91
      have HX2 := Lib.hid (HXr.out.next hb)
      have HY2 := Lib.hid (HYr.out.next hb)
      have HR2 := Lib.hid (HRr.out.next hb)
      have HB2 := Lib.hid (below_nx HBr.out hb)
      have HZ2 := Lib.hid (Nat.le_trans HZr.out hb.size)
      have HO2 := Lib.hid (ownsRow_below HOr.out hb)
      clear hb a0 a1 a2 b0 b1 b2
      generalize W = w2 at *
      clear hU hV wU wV hlt2
      by_cases hbw : y + b ≤ x
      · obtain ⟨z, hz, hVz, hz6, ht⟩ := borrow_facts0 HUV.out hbw HB01.out.2.1
        have HVz := Lib.hid hVz
        have HStep := Lib.hid (show (Ls ++ [z]).length = q + 1 ∧ Digs 65536 (Ls ++ [z]) ∧ ofd 65536 (Ls ++ [z]) + dsum l' E' fr (q + 1) = dsum l E fr (q + 1) + 65536 ^ (q + 1) * 0 from by
          refine ⟨by simp [HL.out.1], Digs.append HL.out.2.1 (Digs.cons hz6 (Digs.nil _)), ?_⟩
          have := borrow_none (x := x) (y := y) HL.out.1 HL.out.2.2 hbw
          rw [hz] at this
          rw [dsum, dsum, HPP.out, HXY.out.1, HXY.out.2]
          exact this)
        clear hz hbw hVz hz6
        have HOaa := Lib.hid (HO2.out.alloc (.cells #[.int .i64 V] 3))
        go_wp2_with (at_builtin; refine wpList_append_own _ rfl _ _ 27 rfl (w.heap.size + 1 + 1 + 1) 3 i0 (.int .i64 0) 1 8 Try.underlying27 hi hz0 hz1 hz2 rfl (by decide) _ q (ints Ls) rfl HOaa.out ⟨w2.heap.size, 0, none⟩ 1 1 [.int .i64 V] rfl rfl ?c1a (by intro u hu; simp at hu; subst hu; rfl) ?c3a ?c4a ?c5a ?_)
        case c1a => exact cell_one_new _ _ _
        case c3a => unfold maxLen; have := HNb.out; omega
        case c4a => have := HNb.out; omega
        case c5a => (try simp); have := HZ2.out; omega
        intro v' w3 hown' hgrow _
        have hal := (Below.refl w2.heap.size w2).alloc (Nat.le_refl _) (.cells #[.int .i64 V] 3)
        have hgx : ∀ k, k < w.heap.size + 1 + 1 + 1 → w3.heap[k]? = w2.heap[k]? := fun k hk => (hgrow.block k (by simp; have := HZ2.out; omega) (fun e => by have := (HOaa.out.lt k e.symm).1; omega)).trans (hal.block k (by have := HZ2.out; omega))
        have HX3 := Lib.hid (show Blk w3 w.heap.size 69 _ from (hgx _ (by omega)).trans HX2.out)
        have HY3 := Lib.hid (show Blk w3 (w.heap.size + 1) 69 _ from (hgx _ (by omega)).trans HY2.out)
        have HR3 := Lib.hid (show Blk w3 (w.heap.size + 1 + 1) 69 _ from (hgx _ (by omega)).trans HR2.out)
        have HB3 := Lib.hid ((below_nx HB2.out hal).grown hgrow (by simp; have := HZ2.out; omega) (fun k hk => by have := (HOaa.out.lt k hk).1; omega))
        have HZ3 := Lib.hid (show w.heap.size + 1 + 1 + 1 ≤ w3.heap.size by have := hgrow.size; have := HZ2.out; simp at *; omega)
        have HO3 := Lib.hid (show w3.ownsRow (w.heap.size + 1 + 1 + 1) 3 1 v' (q + 1) (ints (Ls ++ [z])) by rw [ints_snoc, ← HVz.out]; exact hown')
        clear hown' hgrow hal hgx
        go_wp2_with fail
        go_roundw
        case rel => exact ⟨q + 1, 0, Ls ++ [z], by have := HLT.out.1; omega, by omega, rfl, congrArg (Value.int .i64) (by have := HPP.out; rw [hp1]; omega), HStep, HO3.out, HB3.out, HX3.out, HY3.out, HR3.out, HZ3.out⟩
        case measure => have := HPP.out; have := HLT.out.1; have := HNn.out; rw [hp1]; simp [intOf]; omega
      · obtain ⟨z, hz, hVz, wz, hz6, ht, hbw1, hbw2⟩ := borrow_facts1 HUV.out hbw HB01.out.2.1 HB01.out.2.2 HB01.out.1
        have HStep := Lib.hid (show (Ls ++ [z]).length = q + 1 ∧ Digs 65536 (Ls ++ [z]) ∧ ofd 65536 (Ls ++ [z]) + dsum l' E' fr (q + 1) = dsum l E fr (q + 1) + 65536 ^ (q + 1) * 1 from by
          refine ⟨by simp [HL.out.1], Digs.append HL.out.2.1 (Digs.cons hz6 (Digs.nil _)), ?_⟩
          have := borrow_one (x := x) (y := y) HL.out.1 HL.out.2.2 hbw1 hbw2
          rw [hz] at this
          rw [dsum, dsum, HPP.out, HXY.out.1, HXY.out.2]
          exact this)
        clear hz hbw hbw1 hbw2 hz6
        have HOab := Lib.hid (HO2.out.alloc (.cells #[.int .i64 (z : Int)] 3))
        go_wp2_with (at_builtin; refine wpList_append_own _ rfl _ _ 27 rfl (w.heap.size + 1 + 1 + 1) 3 i0 (.int .i64 0) 1 8 Try.underlying27 hi hz0 hz1 hz2 rfl (by decide) _ q (ints Ls) rfl HOab.out ⟨w2.heap.size, 0, none⟩ 1 1 [.int .i64 (z : Int)] rfl rfl ?c1b (by intro u hu; simp at hu; subst hu; rfl) ?c3b ?c4b ?c5b ?_)
        case c1b => exact cell_one_new _ _ _
        case c3b => unfold maxLen; have := HNb.out; omega
        case c4b => have := HNb.out; omega
        case c5b => (try simp); have := HZ2.out; omega
        intro v' w3 hown' hgrow _
        have hal := (Below.refl w2.heap.size w2).alloc (Nat.le_refl _) (.cells #[.int .i64 (z : Int)] 3)
        have hgx : ∀ k, k < w.heap.size + 1 + 1 + 1 → w3.heap[k]? = w2.heap[k]? := fun k hk => (hgrow.block k (by simp; have := HZ2.out; omega) (fun e => by have := (HOab.out.lt k e.symm).1; omega)).trans (hal.block k (by have := HZ2.out; omega))
        have HX3 := Lib.hid (show Blk w3 w.heap.size 69 _ from (hgx _ (by omega)).trans HX2.out)
        have HY3 := Lib.hid (show Blk w3 (w.heap.size + 1) 69 _ from (hgx _ (by omega)).trans HY2.out)
        have HR3 := Lib.hid (show Blk w3 (w.heap.size + 1 + 1) 69 _ from (hgx _ (by omega)).trans HR2.out)
        have HB3 := Lib.hid ((below_nx HB2.out hal).grown hgrow (by simp; have := HZ2.out; omega) (fun k hk => by have := (HOab.out.lt k hk).1; omega))
        have HZ3 := Lib.hid (show w.heap.size + 1 + 1 + 1 ≤ w3.heap.size by have := hgrow.size; have := HZ2.out; simp at *; omega)
        have HO3 := Lib.hid (show w3.ownsRow (w.heap.size + 1 + 1 + 1) 3 1 v' (q + 1) (ints (Ls ++ [z])) by rw [ints_snoc]; exact hown')
        clear hown' hgrow hal hgx
        go_wp2_with fail
        go_roundw
        case rel => exact ⟨q + 1, 1, Ls ++ [z], by have := HLT.out.1; omega, by omega, rfl, congrArg (Value.int .i64) (by have := HPP.out; rw [hp1]; omega), HStep, HO3.out, HB3.out, HX3.out, HY3.out, HR3.out, HZ3.out⟩
        case measure => have := HPP.out; have := HLT.out.1; have := HNn.out; rw [hp1]; simp [intOf]; omega
    · obtain rfl : q = N := by omega
      have hlt2 : decide (fr + (q : Int) < tz) = false := by simp; have := HNn.out; omega
      obtain ⟨a0, a1, a2⟩ := cells3 HXr.out
      have HR3 := HRr
      have HB3 := HBr
      have HEnd := Lib.hid (borrow_end HL.out.1 HL.out.2.1 HL.out.2.2 HC.out)
      have hrd := own_rd (n := q) HOr.out HL.out.2.1
      obtain ⟨Am, cm, rfl, hRm, hcm⟩ := hrd
      have HRm := Lib.hid hRm
      have Hcm := Lib.hid hcm
      clear hRm hcm
      go_wp2_with fail
      refine (made_any false Am q cm _ fr _ HRm.out (by have := HNb.out; omega) (by have := HFb.out; omega) Hcm.out).mono ?_
      rintro e w4 ⟨ng4, A4, n4, c4, E4, L4, rfl, hR4, hN4, hd4, hb⟩
      have HR4 := Lib.hid (HR3.out.next hb)
      have f0 := HR4.out.frozen 0
      have f1 := HR4.out.frozen 1
      have f2 := HR4.out.frozen 2
      obtain ⟨r0, r1, r2⟩ := cells3 HR4.out
      have HB4 := Lib.hid (below_nx HB3.out hb)
      have HRd4 := Lib.hid hR4
      have HN4 := Lib.hid hN4
      have HD4 := Lib.hid (show rdy ng4 L4 E4 = rdy false l E + rdy true l' E' from hd4.trans (by rw [HV1.out, HV2.out, dy_add, rdy_sgd, HEnd.out]; congr 1; exact (sgd_sub false HC.out).symm))
      clear hb hR4 hN4 hd4 a0 a1 a2
      go_wp2_with fail
      obtain ⟨q0, q1, q2⟩ := cells3 (Blk.store3 HR4.out (.bool ng4) (.slice A4 n4 c4) (.int .i64 E4))
      exact bodyPost_ret (v := .agg #[.bool ng4, .slice A4 n4 c4, .int .i64 E4]) (by simp [results, Try.results74, go_sem, q0, q1, q2]) rfl (retR_done HR4.out HRd4.out HN4.out HD4.out HB4.out (by omega))

set_option maxRecDepth 100000 in
set_option maxHeartbeats 8000000 in
theorem radd_n2 (A : Option Addr) (n c : Nat) (l : List Nat) (E : Int) (A' : Option Addr) (n' c' : Nat) (l' : List Nat) (E' : Int) (w : World) (h : Rd w A n c l) (h' : Rd w A' n' c' l') (hn : n ≤ 536870912) (hn' : n' ≤ 536870912) (hE : E.natAbs ≤ 1073741824) (hE' : E'.natAbs ≤ 1073741824) (h0 : n ≠ 0) (h1 : n' ≠ 0) (fr tz : Int) (N : Nat) (hf : endsF n E n' E' = (fr, tz)) (hN : fr + N = tz) (hC : dsum l' E' fr N ≤ dsum l E fr N) :
    Calls Try.prog 74 #[.agg #[.bool true, .slice A n c, .int .i64 E], .agg #[.bool false, .slice A' n' c', .int .i64 E']] w (RetR (rdy true l E + rdy false l' E') w) := by
  have hfb := ends_bd hf hn hn' hE hE'
  have hends := ends_ok hf
  have HEn := Lib.hid (fun W => rends_any true A n c E false A' n' c' E' W (by omega) (by omega) (by omega) (by omega) fr tz hf)
  have HAt := Lib.hid (fun W (hb : Below w.heap.size w W) p (hp : p.natAbs ≤ 1099511627776) => rdat_any true A n c l E p W (h.below hb) (by omega) (by omega) hp)
  have HAt' := Lib.hid (fun W (hb : Below w.heap.size w W) p (hp : p.natAbs ≤ 1099511627776) => rdat_any false A' n' c' l' E' p W (h'.below hb) (by omega) (by omega) hp)
  have HS := Lib.hid (And.intro h.2.2.2.1 h'.2.2.2.1)
  have Hh := Lib.hid (And.intro h h')
  have HV1 := Lib.hid (show rdy true l E = dy (sgd true (dsum l E fr N)) (16 * fr) from dsum_val (by rw [← h.1]; exact hends.1) hN true)
  have HV2 := Lib.hid (show rdy false l' E' = dy (sgd false (dsum l' E' fr N)) (16 * fr) from dsum_val (by rw [← h'.1]; exact hends.2.1) hN false)
  have HFb := Lib.hid hfb
  have HNn := Lib.hid hN
  have HNb := Lib.hid (show N ≤ 4294967296 by omega)
  have HX := Lib.hid (((Blk.new w 69 #[.bool true, .slice A n c, .int .i64 E]).alloc (.cells #[.bool false, .slice A' n' c', .int .i64 E'] 69)).alloc (.cells #[.bool false, .slice none 0 0, .int .i64 0] 69))
  have HY := Lib.hid ((Blk.new_ (w.alloc (.cells #[.bool true, .slice A n c, .int .i64 E] 69)) 69 #[.bool false, .slice A' n' c', .int .i64 E'] (w.heap.size + 1) (by simp)).alloc (.cells #[.bool false, .slice none 0 0, .int .i64 0] 69))
  have HR := Lib.hid (Blk.new_ ((w.alloc (.cells #[.bool true, .slice A n c, .int .i64 E] 69)).alloc (.cells #[.bool false, .slice A' n' c', .int .i64 E'] 69)) 69 #[.bool false, .slice none 0 0, .int .i64 0] (w.heap.size + 1 + 1) (by simp))
  have HBl := Lib.hid ((((Below.refl w.heap.size w).alloc (Nat.le_refl _) (.cells #[.bool true, .slice A n c, .int .i64 E] 69)).alloc (by simp) (.cells #[.bool false, .slice A' n' c', .int .i64 E'] 69)).alloc (by simp; omega) (.cells #[.bool false, .slice none 0 0, .int .i64 0] 69))
  obtain ⟨i0, hi, hz0, hz1, hz2⟩ := info_parts info_i64
  have HSz := Lib.hid (fun W (hb : Below w.heap.size w W) r hr => rsize_any true A n c l E false A' n' c' l' E' W (h.below hb) (h'.below hb) (by omega) (by omega) (by omega) (by omega) fr tz N hf hN r hr)
  have hn0 : ((n : Int) == 0) = false := by simp; omega
  have hn1 : ((n' : Int) == 0) = false := by simp; omega
  have HC := Lib.hid hC
  obtain ⟨r, hr⟩ : ∃ r : Int, r = if dsum l E fr N < dsum l' E' fr N then -1 else if dsum l E fr N = dsum l' E' fr N then 0 else 1 := ⟨_, rfl⟩
  have HRr0 := Lib.hid hr
  have hr0 : decide (r < 0) = false := by
    rw [if_neg (by omega)] at hr
    split at hr <;> (subst hr; rfl)
  clear h h' hn hn' hE hE' hf hfb hends hN h0 h1 hC hr
  go_enter Try.func74, Try.ntmps74
  obtain ⟨a0, a1, a2⟩ := cells3 HX.out
  obtain ⟨b0, b1, b2⟩ := cells3 HY.out
  go_wp2_with fail
  refine (HEn.out _).mono ?_
  rintro e w1 ⟨rfl, hb⟩
  have HX1 := Lib.hid (HX.out.next hb)
  have HY1 := Lib.hid (HY.out.next hb)
  have HR1 := Lib.hid (HR.out.next hb)
  have HB1 := Lib.hid (below_nx HBl.out hb)
  have HZ1 := Lib.hid (show w.heap.size + 1 + 1 + 1 ≤ w1.heap.size by have := HR1.out.lt; omega)
  clear hb a0 a1 a2 b0 b1 b2
  obtain ⟨a0, a1, a2⟩ := cells3 HX1.out
  obtain ⟨b0, b1, b2⟩ := cells3 HY1.out
  go_wp2_with fail
  clear a0 a1 a2 b0 b1 b2
  refine (HSz.out _ HB1.out _ HRr0.out).mono ?_
  rintro e w2 ⟨rfl, hb⟩
  have HX2 := Lib.hid (HX1.out.next hb)
  have HY2 := Lib.hid (HY1.out.next hb)
  have HR2 := Lib.hid (HR1.out.next hb)
  have HB2 := Lib.hid (below_nx HB1.out hb)
  have HZ2 := Lib.hid (Nat.le_trans HZ1.out hb.size)
  clear hb
  obtain ⟨a0, a1, a2⟩ := cells3 HX2.out
  obtain ⟨b0, b1, b2⟩ := cells3 HY2.out
  go_wp2_with fail
  clear a0 a1 a2 b0 b1 b2
  go_loopw [7, 8, 11] (fun L cc p wr => ∃ (q b : Nat) (Ls : List Nat), q ≤ N ∧ b ≤ 1 ∧ cc = .int .i64 (b : Int) ∧ p = .int .i64 (fr + (q : Int)) ∧ Hid (Ls.length = q ∧ Digs 65536 Ls ∧ ofd 65536 Ls + dsum l' E' fr q = dsum l E fr q + 65536 ^ q * b) ∧ wr.ownsRow (w.heap.size + 1 + 1 + 1) 3 1 L q (ints Ls) ∧ Below w.heap.size w wr ∧ Blk wr w.heap.size 69 #[.bool true, .slice A n c, .int .i64 E] ∧ Blk wr (w.heap.size + 1) 69 #[.bool false, .slice A' n' c', .int .i64 E'] ∧ Blk wr (w.heap.size + 1 + 1) 69 #[.bool false, .slice none 0 0, .int .i64 0] ∧ w.heap.size + 1 + 1 + 1 ≤ wr.heap.size) (fun _ _ p _ => (tz - intOf p).toNat)
  case atStart => exact ⟨0, 0, [], Nat.zero_le _, by omega, rfl, by simp, Lib.hid ⟨rfl, Digs.nil _, by simp [ofd, dsum]⟩, World.ownsRow_nil _ _ _ _, HB2.out, HX2.out, HY2.out, HR2.out, HZ2.out⟩
  case round =>
    clear HX1 HY1 HR1 HB1 HZ1 HX2 HY2 HR2 HB2 HZ2 HSz
    obtain ⟨q, b, Ls, hq, hcr, rfl, rfl, HL, hO, hB, hX, hY, hR, hZ⟩ := hrel
    have HOr := Lib.hid hO
    have HBr := Lib.hid hB
    have HXr := Lib.hid hX
    have HYr := Lib.hid hY
    have HRr := Lib.hid hR
    have HZr := Lib.hid hZ
    clear hO hB hX hY hR hZ
    by_cases hlt : q < N
    · have hq1 : q + 1 ≤ 4294967296 := by have := HNb.out; omega
      obtain ⟨P, hP⟩ : ∃ P, fr + (q : Int) = P := ⟨_, rfl⟩
      have hp1 : wrap64 (P + 1) = P + 1 := wrap64_in (by have := HFb.out; have := HNn.out; omega)
      have hlt2 : decide (P < tz) = true := by simp; have := HNn.out; omega
      have HPb := Lib.hid (show P.natAbs ≤ 1099511627776 by have := HFb.out; have := HNn.out; omega)
      have HPP := Lib.hid hP
      rw [hP]
      obtain ⟨x, hx⟩ : ∃ x, dat l E P = x := ⟨_, rfl⟩
      obtain ⟨y, hy⟩ : ∃ y, dat l' E' P = y := ⟨_, rfl⟩
      have hx6 : x < 65536 := by rw [← hx]; exact dat_lt HS.out.1 _ _
      have hy6 : y < 65536 := by rw [← hy]; exact dat_lt HS.out.2 _ _
      have HAtP := Lib.hid (fun W (hb : Below w.heap.size w W) => HAt.out W hb P HPb.out)
      have HAtP' := Lib.hid (fun W (hb : Below w.heap.size w W) => HAt'.out W hb P HPb.out)
      rw [hx] at HAtP
      rw [hy] at HAtP'
      have HXY := Lib.hid (And.intro hx hy)
      clear hx hy hP
      obtain ⟨a0, a1, a2⟩ := cells3 HXr.out
      obtain ⟨b0, b1, b2⟩ := cells3 HYr.out
      obtain ⟨U, hU⟩ : ∃ U : Int, (x : Int) - (y : Int) = U := ⟨_, rfl⟩
      obtain ⟨V, hV⟩ : ∃ V : Int, U - (b : Int) = V := ⟨_, rfl⟩
      have wU : IntKind.i64.wrap U = U := iwrap_in (by omega)
      have wV : IntKind.i64.wrap V = V := iwrap_in (by omega)
      have HUV := Lib.hid (show (x : Int) - (y : Int) - (b : Int) = V by omega)
      have HLT := Lib.hid (And.intro hlt hq)
      have HB01 := Lib.hid (And.intro hcr (And.intro hx6 hy6))
      clear hlt hcr hx6 hy6
      go_wp2_with fail
      refine wp_region_inv [83, 84, 85, 86, 87, 88, 89, 90, 91, 12] (fun d s W => (d 0 = true → s 83 = .agg #[.bool true, .slice A n c, .int .i64 E]) ∧ (d 1 = true → s 84 = .int .i64 P) ∧ (d 2 = true → s 85 = .int .i64 (x : Int)) ∧ (d 3 = true → s 86 = .agg #[.bool false, .slice A' n' c', .int .i64 E']) ∧ (d 4 = true → s 87 = .int .i64 P) ∧ (d 5 = true → s 88 = .int .i64 (y : Int)) ∧ (d 6 = true → s 89 = .int .i64 U) ∧ (d 7 = true → s 90 = .int .i64 (b : Int)) ∧ (d 8 = true → s 91 = .int .i64 V) ∧ (d 9 = true → s 12 = .int .i64 V) ∧ Below wr.heap.size wr W)
        rfl (by kernel_rfl) ?_ ?_ ?_
      · exact ⟨by simp, by simp, by simp, by simp, by simp, by simp, by simp, by simp, by simp, by simp, (Below.refl _ _).drew⟩
      · refine ⟨?_, ?_, ?_, ?_, ?_, ?_, ?_, ?_, ?_, ?_, trivial⟩
        all_goals
          intro d s W hJ hfr hd hdep
          simp only [List.mem_cons, forall_eq_or_imp, List.not_mem_nil, false_implies, implies_true, and_true, Region.binds] at hdep
          have f2 := hfr 2 (by decide)
          have f3 := hfr 3 (by decide)
          have f8 := hfr 8 (by decide)
          have f11 := hfr 11 (by decide)
          simp at f2 f3 f8 f11 hdep
          obtain ⟨h0, h1, h2, h3, h4, h5, h6, h7, h8, h9, hT⟩ := hJ
        · unfold OpSteps
          obtain ⟨p0, p1, p2⟩ := cells3 (HXr.out.below hT HXr.out.lt)
          simp [go_sem, evS, f2, p0, p1, p2]
          exact ⟨fun _ => by simp [sput], fun h => by simpa [sput] using h1 (by simpa [did] using h), fun h => by simpa [sput] using h2 (by simpa [did] using h), fun h => by simpa [sput] using h3 (by simpa [did] using h), fun h => by simpa [sput] using h4 (by simpa [did] using h), fun h => by simpa [sput] using h5 (by simpa [did] using h), fun h => by simpa [sput] using h6 (by simpa [did] using h), fun h => by simpa [sput] using h7 (by simpa [did] using h), fun h => by simpa [sput] using h8 (by simpa [did] using h), fun h => by simpa [sput] using h9 (by simpa [did] using h), hT⟩
        · unfold OpSteps
          simp [go_sem, evS, f11]
          exact ⟨fun h => by simpa [sput] using h0 (by simpa [did] using h), fun _ => by simp [sput], fun h => by simpa [sput] using h2 (by simpa [did] using h), fun h => by simpa [sput] using h3 (by simpa [did] using h), fun h => by simpa [sput] using h4 (by simpa [did] using h), fun h => by simpa [sput] using h5 (by simpa [did] using h), fun h => by simpa [sput] using h6 (by simpa [did] using h), fun h => by simpa [sput] using h7 (by simpa [did] using h), fun h => by simpa [sput] using h8 (by simpa [did] using h), fun h => by simpa [sput] using h9 (by simpa [did] using h), hT⟩
        · have fz0 := h0 (by simp [hdep])
          have fz1 := h1 (by simp [hdep])
          unfold OpSteps
          simp [go_sem, evS, fz0, fz1]
          refine (HAtP.out W (below_nx HBr.out hT)).mono ?_
          rintro e W' ⟨rfl, hb⟩
          refine ⟨_, rfl, ?_⟩
          exact ⟨fun h => by simpa [sput] using h0 (by simpa [did] using h), fun h => by simpa [sput] using h1 (by simpa [did] using h), fun _ => by simp [sput], fun h => by simpa [sput] using h3 (by simpa [did] using h), fun h => by simpa [sput] using h4 (by simpa [did] using h), fun h => by simpa [sput] using h5 (by simpa [did] using h), fun h => by simpa [sput] using h6 (by simpa [did] using h), fun h => by simpa [sput] using h7 (by simpa [did] using h), fun h => by simpa [sput] using h8 (by simpa [did] using h), fun h => by simpa [sput] using h9 (by simpa [did] using h), below_nx hT hb⟩
        · unfold OpSteps
          obtain ⟨p0, p1, p2⟩ := cells3 (HYr.out.below hT HYr.out.lt)
          simp [go_sem, evS, f3, p0, p1, p2]
          exact ⟨fun h => by simpa [sput] using h0 (by simpa [did] using h), fun h => by simpa [sput] using h1 (by simpa [did] using h), fun h => by simpa [sput] using h2 (by simpa [did] using h), fun _ => by simp [sput], fun h => by simpa [sput] using h4 (by simpa [did] using h), fun h => by simpa [sput] using h5 (by simpa [did] using h), fun h => by simpa [sput] using h6 (by simpa [did] using h), fun h => by simpa [sput] using h7 (by simpa [did] using h), fun h => by simpa [sput] using h8 (by simpa [did] using h), fun h => by simpa [sput] using h9 (by simpa [did] using h), hT⟩
        · unfold OpSteps
          simp [go_sem, evS, f11]
          exact ⟨fun h => by simpa [sput] using h0 (by simpa [did] using h), fun h => by simpa [sput] using h1 (by simpa [did] using h), fun h => by simpa [sput] using h2 (by simpa [did] using h), fun h => by simpa [sput] using h3 (by simpa [did] using h), fun _ => by simp [sput], fun h => by simpa [sput] using h5 (by simpa [did] using h), fun h => by simpa [sput] using h6 (by simpa [did] using h), fun h => by simpa [sput] using h7 (by simpa [did] using h), fun h => by simpa [sput] using h8 (by simpa [did] using h), fun h => by simpa [sput] using h9 (by simpa [did] using h), hT⟩
        · have fz3 := h3 (by simp [hdep])
          have fz4 := h4 (by simp [hdep])
          unfold OpSteps
          simp [go_sem, evS, fz3, fz4]
          refine (HAtP'.out W (below_nx HBr.out hT)).mono ?_
          rintro e W' ⟨rfl, hb⟩
          refine ⟨_, rfl, ?_⟩
          exact ⟨fun h => by simpa [sput] using h0 (by simpa [did] using h), fun h => by simpa [sput] using h1 (by simpa [did] using h), fun h => by simpa [sput] using h2 (by simpa [did] using h), fun h => by simpa [sput] using h3 (by simpa [did] using h), fun h => by simpa [sput] using h4 (by simpa [did] using h), fun _ => by simp [sput], fun h => by simpa [sput] using h6 (by simpa [did] using h), fun h => by simpa [sput] using h7 (by simpa [did] using h), fun h => by simpa [sput] using h8 (by simpa [did] using h), fun h => by simpa [sput] using h9 (by simpa [did] using h), below_nx hT hb⟩
        · have fz2 := h2 (by simp [hdep])
          have fz5 := h5 (by simp [hdep])
          unfold OpSteps
          simp [go_sem, evS, fz2, fz5, hU, wU]
          exact ⟨fun h => by simpa [sput] using h0 (by simpa [did] using h), fun h => by simpa [sput] using h1 (by simpa [did] using h), fun h => by simpa [sput] using h2 (by simpa [did] using h), fun h => by simpa [sput] using h3 (by simpa [did] using h), fun h => by simpa [sput] using h4 (by simpa [did] using h), fun h => by simpa [sput] using h5 (by simpa [did] using h), fun _ => by simp [sput], fun h => by simpa [sput] using h7 (by simpa [did] using h), fun h => by simpa [sput] using h8 (by simpa [did] using h), fun h => by simpa [sput] using h9 (by simpa [did] using h), hT⟩
        · unfold OpSteps
          simp [go_sem, evS, f8]
          exact ⟨fun h => by simpa [sput] using h0 (by simpa [did] using h), fun h => by simpa [sput] using h1 (by simpa [did] using h), fun h => by simpa [sput] using h2 (by simpa [did] using h), fun h => by simpa [sput] using h3 (by simpa [did] using h), fun h => by simpa [sput] using h4 (by simpa [did] using h), fun h => by simpa [sput] using h5 (by simpa [did] using h), fun h => by simpa [sput] using h6 (by simpa [did] using h), fun _ => by simp [sput], fun h => by simpa [sput] using h8 (by simpa [did] using h), fun h => by simpa [sput] using h9 (by simpa [did] using h), hT⟩
        · have fz6 := h6 (by simp [hdep])
          have fz7 := h7 (by simp [hdep])
          unfold OpSteps
          simp [go_sem, evS, fz6, fz7, hV, wV]
          exact ⟨fun h => by simpa [sput] using h0 (by simpa [did] using h), fun h => by simpa [sput] using h1 (by simpa [did] using h), fun h => by simpa [sput] using h2 (by simpa [did] using h), fun h => by simpa [sput] using h3 (by simpa [did] using h), fun h => by simpa [sput] using h4 (by simpa [did] using h), fun h => by simpa [sput] using h5 (by simpa [did] using h), fun h => by simpa [sput] using h6 (by simpa [did] using h), fun h => by simpa [sput] using h7 (by simpa [did] using h), fun _ => by simp [sput], fun h => by simpa [sput] using h9 (by simpa [did] using h), hT⟩
        · have fz8 := h8 (by simp [hdep])
          unfold OpSteps
          simp [go_sem, evS, fz8]
          exact ⟨fun h => by simpa [sput] using h0 (by simpa [did] using h), fun h => by simpa [sput] using h1 (by simpa [did] using h), fun h => by simpa [sput] using h2 (by simpa [did] using h), fun h => by simpa [sput] using h3 (by simpa [did] using h), fun h => by simpa [sput] using h4 (by simpa [did] using h), fun h => by simpa [sput] using h5 (by simpa [did] using h), fun h => by simpa [sput] using h6 (by simpa [did] using h), fun h => by simpa [sput] using h7 (by simpa [did] using h), fun h => by simpa [sput] using h8 (by simpa [did] using h), fun _ => by simp [sput], hT⟩
      intro d s W hJ hd
      obtain ⟨h0, h1, h2, h3, h4, h5, h6, h7, h8, h9, hT⟩ := hJ
      have hs12 := h9 (hd 9 (by decide))
      have hb : Below wr.heap.size wr W := hT
      clear h0 h1 h2 h3 h4 h5 h6 h7 h8 h9 hT hd
      simp [setAll, hs12]
      clear hs12
      generalize s 83 = s83
      generalize s 84 = s84
      generalize s 85 = s85
      generalize s 86 = s86
      generalize s 87 = s87
      generalize s 88 = s88
      generalize s 89 = s89
      generalize s 90 = s90
      generalize s 91 = s91
      have HX2 := Lib.hid (HXr.out.next hb)
      have HY2 := Lib.hid (HYr.out.next hb)
      have HR2 := Lib.hid (HRr.out.next hb)
      have HB2 := Lib.hid (below_nx HBr.out hb)
      have HZ2 := Lib.hid (Nat.le_trans HZr.out hb.size)
      have HO2 := Lib.hid (ownsRow_below HOr.out hb)
      clear hb a0 a1 a2 b0 b1 b2
      generalize W = w2 at *
      clear hU hV wU wV hlt2
      by_cases hbw : y + b ≤ x
      · obtain ⟨z, hz, hVz, hz6, ht⟩ := borrow_facts0 HUV.out hbw HB01.out.2.1
        have HVz := Lib.hid hVz
        have HStep := Lib.hid (show (Ls ++ [z]).length = q + 1 ∧ Digs 65536 (Ls ++ [z]) ∧ ofd 65536 (Ls ++ [z]) + dsum l' E' fr (q + 1) = dsum l E fr (q + 1) + 65536 ^ (q + 1) * 0 from by
          refine ⟨by simp [HL.out.1], Digs.append HL.out.2.1 (Digs.cons hz6 (Digs.nil _)), ?_⟩
          have := borrow_none (x := x) (y := y) HL.out.1 HL.out.2.2 hbw
          rw [hz] at this
          rw [dsum, dsum, HPP.out, HXY.out.1, HXY.out.2]
          exact this)
        clear hz hbw hVz hz6
        have HOaa := Lib.hid (HO2.out.alloc (.cells #[.int .i64 V] 3))
        go_wp2_with (at_builtin; refine wpList_append_own _ rfl _ _ 27 rfl (w.heap.size + 1 + 1 + 1) 3 i0 (.int .i64 0) 1 8 Try.underlying27 hi hz0 hz1 hz2 rfl (by decide) _ q (ints Ls) rfl HOaa.out ⟨w2.heap.size, 0, none⟩ 1 1 [.int .i64 V] rfl rfl ?c1a (by intro u hu; simp at hu; subst hu; rfl) ?c3a ?c4a ?c5a ?_)
        case c1a => exact cell_one_new _ _ _
        case c3a => unfold maxLen; have := HNb.out; omega
        case c4a => have := HNb.out; omega
        case c5a => (try simp); have := HZ2.out; omega
        intro v' w3 hown' hgrow _
        have hal := (Below.refl w2.heap.size w2).alloc (Nat.le_refl _) (.cells #[.int .i64 V] 3)
        have hgx : ∀ k, k < w.heap.size + 1 + 1 + 1 → w3.heap[k]? = w2.heap[k]? := fun k hk => (hgrow.block k (by simp; have := HZ2.out; omega) (fun e => by have := (HOaa.out.lt k e.symm).1; omega)).trans (hal.block k (by have := HZ2.out; omega))
        have HX3 := Lib.hid (show Blk w3 w.heap.size 69 _ from (hgx _ (by omega)).trans HX2.out)
        have HY3 := Lib.hid (show Blk w3 (w.heap.size + 1) 69 _ from (hgx _ (by omega)).trans HY2.out)
        have HR3 := Lib.hid (show Blk w3 (w.heap.size + 1 + 1) 69 _ from (hgx _ (by omega)).trans HR2.out)
        have HB3 := Lib.hid ((below_nx HB2.out hal).grown hgrow (by simp; have := HZ2.out; omega) (fun k hk => by have := (HOaa.out.lt k hk).1; omega))
        have HZ3 := Lib.hid (show w.heap.size + 1 + 1 + 1 ≤ w3.heap.size by have := hgrow.size; have := HZ2.out; simp at *; omega)
        have HO3 := Lib.hid (show w3.ownsRow (w.heap.size + 1 + 1 + 1) 3 1 v' (q + 1) (ints (Ls ++ [z])) by rw [ints_snoc, ← HVz.out]; exact hown')
        clear hown' hgrow hal hgx
        go_wp2_with fail
        go_roundw
        case rel => exact ⟨q + 1, 0, Ls ++ [z], by have := HLT.out.1; omega, by omega, rfl, congrArg (Value.int .i64) (by have := HPP.out; rw [hp1]; omega), HStep, HO3.out, HB3.out, HX3.out, HY3.out, HR3.out, HZ3.out⟩
        case measure => have := HPP.out; have := HLT.out.1; have := HNn.out; rw [hp1]; simp [intOf]; omega
      · obtain ⟨z, hz, hVz, wz, hz6, ht, hbw1, hbw2⟩ := borrow_facts1 HUV.out hbw HB01.out.2.1 HB01.out.2.2 HB01.out.1
        have HStep := Lib.hid (show (Ls ++ [z]).length = q + 1 ∧ Digs 65536 (Ls ++ [z]) ∧ ofd 65536 (Ls ++ [z]) + dsum l' E' fr (q + 1) = dsum l E fr (q + 1) + 65536 ^ (q + 1) * 1 from by
          refine ⟨by simp [HL.out.1], Digs.append HL.out.2.1 (Digs.cons hz6 (Digs.nil _)), ?_⟩
          have := borrow_one (x := x) (y := y) HL.out.1 HL.out.2.2 hbw1 hbw2
          rw [hz] at this
          rw [dsum, dsum, HPP.out, HXY.out.1, HXY.out.2]
          exact this)
        clear hz hbw hbw1 hbw2 hz6
        have HOab := Lib.hid (HO2.out.alloc (.cells #[.int .i64 (z : Int)] 3))
        go_wp2_with (at_builtin; refine wpList_append_own _ rfl _ _ 27 rfl (w.heap.size + 1 + 1 + 1) 3 i0 (.int .i64 0) 1 8 Try.underlying27 hi hz0 hz1 hz2 rfl (by decide) _ q (ints Ls) rfl HOab.out ⟨w2.heap.size, 0, none⟩ 1 1 [.int .i64 (z : Int)] rfl rfl ?c1b (by intro u hu; simp at hu; subst hu; rfl) ?c3b ?c4b ?c5b ?_)
        case c1b => exact cell_one_new _ _ _
        case c3b => unfold maxLen; have := HNb.out; omega
        case c4b => have := HNb.out; omega
        case c5b => (try simp); have := HZ2.out; omega
        intro v' w3 hown' hgrow _
        have hal := (Below.refl w2.heap.size w2).alloc (Nat.le_refl _) (.cells #[.int .i64 (z : Int)] 3)
        have hgx : ∀ k, k < w.heap.size + 1 + 1 + 1 → w3.heap[k]? = w2.heap[k]? := fun k hk => (hgrow.block k (by simp; have := HZ2.out; omega) (fun e => by have := (HOab.out.lt k e.symm).1; omega)).trans (hal.block k (by have := HZ2.out; omega))
        have HX3 := Lib.hid (show Blk w3 w.heap.size 69 _ from (hgx _ (by omega)).trans HX2.out)
        have HY3 := Lib.hid (show Blk w3 (w.heap.size + 1) 69 _ from (hgx _ (by omega)).trans HY2.out)
        have HR3 := Lib.hid (show Blk w3 (w.heap.size + 1 + 1) 69 _ from (hgx _ (by omega)).trans HR2.out)
        have HB3 := Lib.hid ((below_nx HB2.out hal).grown hgrow (by simp; have := HZ2.out; omega) (fun k hk => by have := (HOab.out.lt k hk).1; omega))
        have HZ3 := Lib.hid (show w.heap.size + 1 + 1 + 1 ≤ w3.heap.size by have := hgrow.size; have := HZ2.out; simp at *; omega)
        have HO3 := Lib.hid (show w3.ownsRow (w.heap.size + 1 + 1 + 1) 3 1 v' (q + 1) (ints (Ls ++ [z])) by rw [ints_snoc]; exact hown')
        clear hown' hgrow hal hgx
        go_wp2_with fail
        go_roundw
        case rel => exact ⟨q + 1, 1, Ls ++ [z], by have := HLT.out.1; omega, by omega, rfl, congrArg (Value.int .i64) (by have := HPP.out; rw [hp1]; omega), HStep, HO3.out, HB3.out, HX3.out, HY3.out, HR3.out, HZ3.out⟩
        case measure => have := HPP.out; have := HLT.out.1; have := HNn.out; rw [hp1]; simp [intOf]; omega
    · obtain rfl : q = N := by omega
      have hlt2 : decide (fr + (q : Int) < tz) = false := by simp; have := HNn.out; omega
      obtain ⟨a0, a1, a2⟩ := cells3 HXr.out
      have HR3 := HRr
      have HB3 := HBr
      have HEnd := Lib.hid (borrow_end HL.out.1 HL.out.2.1 HL.out.2.2 HC.out)
      have hrd := own_rd (n := q) HOr.out HL.out.2.1
      obtain ⟨Am, cm, rfl, hRm, hcm⟩ := hrd
      have HRm := Lib.hid hRm
      have Hcm := Lib.hid hcm
      clear hRm hcm
      go_wp2_with fail
      refine (made_any true Am q cm _ fr _ HRm.out (by have := HNb.out; omega) (by have := HFb.out; omega) Hcm.out).mono ?_
      rintro e w4 ⟨ng4, A4, n4, c4, E4, L4, rfl, hR4, hN4, hd4, hb⟩
      have HR4 := Lib.hid (HR3.out.next hb)
      have f0 := HR4.out.frozen 0
      have f1 := HR4.out.frozen 1
      have f2 := HR4.out.frozen 2
      obtain ⟨r0, r1, r2⟩ := cells3 HR4.out
      have HB4 := Lib.hid (below_nx HB3.out hb)
      have HRd4 := Lib.hid hR4
      have HN4 := Lib.hid hN4
      have HD4 := Lib.hid (show rdy ng4 L4 E4 = rdy true l E + rdy false l' E' from hd4.trans (by rw [HV1.out, HV2.out, dy_add, rdy_sgd, HEnd.out]; congr 1; exact (sgd_sub true HC.out).symm))
      clear hb hR4 hN4 hd4 a0 a1 a2
      go_wp2_with fail
      obtain ⟨q0, q1, q2⟩ := cells3 (Blk.store3 HR4.out (.bool ng4) (.slice A4 n4 c4) (.int .i64 E4))
      exact bodyPost_ret (v := .agg #[.bool ng4, .slice A4 n4 c4, .int .i64 E4]) (by simp [results, Try.results74, go_sem, q0, q1, q2]) rfl (retR_done HR4.out HRd4.out HN4.out HD4.out HB4.out (by omega))

set_option maxRecDepth 100000 in
set_option maxHeartbeats 8000000 in
theorem radd_s1 (A : Option Addr) (n c : Nat) (l : List Nat) (E : Int) (A' : Option Addr) (n' c' : Nat) (l' : List Nat) (E' : Int) (w : World) (h : Rd w A n c l) (h' : Rd w A' n' c' l') (hn : n ≤ 536870912) (hn' : n' ≤ 536870912) (hE : E.natAbs ≤ 1073741824) (hE' : E'.natAbs ≤ 1073741824) (h0 : n ≠ 0) (h1 : n' ≠ 0) (fr tz : Int) (N : Nat) (hf : endsF n E n' E' = (fr, tz)) (hN : fr + N = tz) (hC : dsum l E fr N < dsum l' E' fr N) :
    Calls Try.prog 74 #[.agg #[.bool false, .slice A n c, .int .i64 E], .agg #[.bool true, .slice A' n' c', .int .i64 E']] w (RetR (rdy false l E + rdy true l' E') w) := by
  have hfb := ends_bd hf hn hn' hE hE'
  have hends := ends_ok hf
  have HEn := Lib.hid (fun W => rends_any false A n c E true A' n' c' E' W (by omega) (by omega) (by omega) (by omega) fr tz hf)
  have HAt := Lib.hid (fun W (hb : Below w.heap.size w W) p (hp : p.natAbs ≤ 1099511627776) => rdat_any false A n c l E p W (h.below hb) (by omega) (by omega) hp)
  have HAt' := Lib.hid (fun W (hb : Below w.heap.size w W) p (hp : p.natAbs ≤ 1099511627776) => rdat_any true A' n' c' l' E' p W (h'.below hb) (by omega) (by omega) hp)
  have HS := Lib.hid (And.intro h.2.2.2.1 h'.2.2.2.1)
  have Hh := Lib.hid (And.intro h h')
  have HV1 := Lib.hid (show rdy false l E = dy (sgd false (dsum l E fr N)) (16 * fr) from dsum_val (by rw [← h.1]; exact hends.1) hN false)
  have HV2 := Lib.hid (show rdy true l' E' = dy (sgd true (dsum l' E' fr N)) (16 * fr) from dsum_val (by rw [← h'.1]; exact hends.2.1) hN true)
  have HFb := Lib.hid hfb
  have HNn := Lib.hid hN
  have HNb := Lib.hid (show N ≤ 4294967296 by omega)
  have HX := Lib.hid (((Blk.new w 69 #[.bool false, .slice A n c, .int .i64 E]).alloc (.cells #[.bool true, .slice A' n' c', .int .i64 E'] 69)).alloc (.cells #[.bool false, .slice none 0 0, .int .i64 0] 69))
  have HY := Lib.hid ((Blk.new_ (w.alloc (.cells #[.bool false, .slice A n c, .int .i64 E] 69)) 69 #[.bool true, .slice A' n' c', .int .i64 E'] (w.heap.size + 1) (by simp)).alloc (.cells #[.bool false, .slice none 0 0, .int .i64 0] 69))
  have HR := Lib.hid (Blk.new_ ((w.alloc (.cells #[.bool false, .slice A n c, .int .i64 E] 69)).alloc (.cells #[.bool true, .slice A' n' c', .int .i64 E'] 69)) 69 #[.bool false, .slice none 0 0, .int .i64 0] (w.heap.size + 1 + 1) (by simp))
  have HBl := Lib.hid ((((Below.refl w.heap.size w).alloc (Nat.le_refl _) (.cells #[.bool false, .slice A n c, .int .i64 E] 69)).alloc (by simp) (.cells #[.bool true, .slice A' n' c', .int .i64 E'] 69)).alloc (by simp; omega) (.cells #[.bool false, .slice none 0 0, .int .i64 0] 69))
  obtain ⟨i0, hi, hz0, hz1, hz2⟩ := info_parts info_i64
  have HSz := Lib.hid (fun W (hb : Below w.heap.size w W) r hr => rsize_any false A n c l E true A' n' c' l' E' W (h.below hb) (h'.below hb) (by omega) (by omega) (by omega) (by omega) fr tz N hf hN r hr)
  have hn0 : ((n : Int) == 0) = false := by simp; omega
  have hn1 : ((n' : Int) == 0) = false := by simp; omega
  have HC := Lib.hid hC
  clear h h' hn hn' hE hE' hf hfb hends hN h0 h1 hC
  go_enter Try.func74, Try.ntmps74
  obtain ⟨a0, a1, a2⟩ := cells3 HX.out
  obtain ⟨b0, b1, b2⟩ := cells3 HY.out
  go_wp2_with fail
  refine (HEn.out _).mono ?_
  rintro e w1 ⟨rfl, hb⟩
  have HX1 := Lib.hid (HX.out.next hb)
  have HY1 := Lib.hid (HY.out.next hb)
  have HR1 := Lib.hid (HR.out.next hb)
  have HB1 := Lib.hid (below_nx HBl.out hb)
  have HZ1 := Lib.hid (show w.heap.size + 1 + 1 + 1 ≤ w1.heap.size by have := HR1.out.lt; omega)
  clear hb a0 a1 a2 b0 b1 b2
  obtain ⟨a0, a1, a2⟩ := cells3 HX1.out
  obtain ⟨b0, b1, b2⟩ := cells3 HY1.out
  go_wp2_with fail
  clear a0 a1 a2 b0 b1 b2
  refine (HSz.out _ HB1.out (-1) (by rw [if_pos HC.out])).mono ?_
  rintro e w2 ⟨rfl, hb⟩
  have HX2 := Lib.hid (HX1.out.next hb)
  have HY2 := Lib.hid (HY1.out.next hb)
  have HR2 := Lib.hid (HR1.out.next hb)
  have HB2 := Lib.hid (below_nx HB1.out hb)
  have HZ2 := Lib.hid (Nat.le_trans HZ1.out hb.size)
  clear hb
  obtain ⟨a0, a1, a2⟩ := cells3 HX2.out
  obtain ⟨b0, b1, b2⟩ := cells3 HY2.out
  have fa0 := HX2.out.frozen 0
  have fa1 := HX2.out.frozen 1
  have fa2 := HX2.out.frozen 2
  have fb0 := HY2.out.frozen 0
  have fb1 := HY2.out.frozen 1
  have fb2 := HY2.out.frozen 2
  go_upto_region 15 with fail
  have HX3 := Lib.hid (show Blk ((((((w2.setCell ⟨w.heap.size, 0, none⟩ (.bool true)).setCell ⟨w.heap.size, 1, none⟩ (.slice A' n' c')).setCell ⟨w.heap.size, 2, none⟩ (.int .i64 E')).setCell ⟨w.heap.size + 1, 0, none⟩ (.bool false)).setCell ⟨w.heap.size + 1, 1, none⟩ (.slice A n c)).setCell ⟨w.heap.size + 1, 2, none⟩ (.int .i64 E)) w.heap.size 69 #[.bool true, .slice A' n' c', .int .i64 E'] from ((((Blk.store3 HX2.out (.bool true) (.slice A' n' c') (.int .i64 E')).other (p := ⟨w.heap.size + 1, 0, none⟩) (by simp <;> omega) (.bool false)).other (p := ⟨w.heap.size + 1, 1, none⟩) (by simp <;> omega) (.slice A n c)).other (p := ⟨w.heap.size + 1, 2, none⟩) (by simp <;> omega) (.int .i64 E)))
  have HY3 := Lib.hid (show Blk ((((((w2.setCell ⟨w.heap.size, 0, none⟩ (.bool true)).setCell ⟨w.heap.size, 1, none⟩ (.slice A' n' c')).setCell ⟨w.heap.size, 2, none⟩ (.int .i64 E')).setCell ⟨w.heap.size + 1, 0, none⟩ (.bool false)).setCell ⟨w.heap.size + 1, 1, none⟩ (.slice A n c)).setCell ⟨w.heap.size + 1, 2, none⟩ (.int .i64 E)) (w.heap.size + 1) 69 #[.bool false, .slice A n c, .int .i64 E] from Blk.store3 (((HY2.out.other (p := ⟨w.heap.size, 0, none⟩) (by simp <;> omega) (.bool true)).other (p := ⟨w.heap.size, 1, none⟩) (by simp <;> omega) (.slice A' n' c')).other (p := ⟨w.heap.size, 2, none⟩) (by simp <;> omega) (.int .i64 E')) (.bool false) (.slice A n c) (.int .i64 E))
  have HR3 := Lib.hid (show Blk ((((((w2.setCell ⟨w.heap.size, 0, none⟩ (.bool true)).setCell ⟨w.heap.size, 1, none⟩ (.slice A' n' c')).setCell ⟨w.heap.size, 2, none⟩ (.int .i64 E')).setCell ⟨w.heap.size + 1, 0, none⟩ (.bool false)).setCell ⟨w.heap.size + 1, 1, none⟩ (.slice A n c)).setCell ⟨w.heap.size + 1, 2, none⟩ (.int .i64 E)) (w.heap.size + 1 + 1) 69 #[.bool false, .slice none 0 0, .int .i64 0] from ((((((HR2.out.other (p := ⟨w.heap.size, 0, none⟩) (by simp <;> omega) (.bool true)).other (p := ⟨w.heap.size, 1, none⟩) (by simp <;> omega) (.slice A' n' c')).other (p := ⟨w.heap.size, 2, none⟩) (by simp <;> omega) (.int .i64 E')).other (p := ⟨w.heap.size + 1, 0, none⟩) (by simp <;> omega) (.bool false)).other (p := ⟨w.heap.size + 1, 1, none⟩) (by simp <;> omega) (.slice A n c)).other (p := ⟨w.heap.size + 1, 2, none⟩) (by simp <;> omega) (.int .i64 E)))
  have HB3 := Lib.hid (show Below w.heap.size w ((((((w2.setCell ⟨w.heap.size, 0, none⟩ (.bool true)).setCell ⟨w.heap.size, 1, none⟩ (.slice A' n' c')).setCell ⟨w.heap.size, 2, none⟩ (.int .i64 E')).setCell ⟨w.heap.size + 1, 0, none⟩ (.bool false)).setCell ⟨w.heap.size + 1, 1, none⟩ (.slice A n c)).setCell ⟨w.heap.size + 1, 2, none⟩ (.int .i64 E)) from ((((((HB2.out.setCell (p := ⟨w.heap.size, 0, none⟩) (Nat.le_refl _) _).setCell (p := ⟨w.heap.size, 1, none⟩) (Nat.le_refl _) _).setCell (p := ⟨w.heap.size, 2, none⟩) (Nat.le_refl _) _).setCell (p := ⟨w.heap.size + 1, 0, none⟩) (by simp) _).setCell (p := ⟨w.heap.size + 1, 1, none⟩) (by simp) _).setCell (p := ⟨w.heap.size + 1, 2, none⟩) (by simp) _))
  have HZ3 := Lib.hid (show w.heap.size + 1 + 1 + 1 ≤ ((((((w2.setCell ⟨w.heap.size, 0, none⟩ (.bool true)).setCell ⟨w.heap.size, 1, none⟩ (.slice A' n' c')).setCell ⟨w.heap.size, 2, none⟩ (.int .i64 E')).setCell ⟨w.heap.size + 1, 0, none⟩ (.bool false)).setCell ⟨w.heap.size + 1, 1, none⟩ (.slice A n c)).setCell ⟨w.heap.size + 1, 2, none⟩ (.int .i64 E)).heap.size by simpa [World.setCell] using HZ2.out)
  clear a0 a1 a2 b0 b1 b2 fa0 fa1 fa2 fb0 fb1 fb2
  generalize ((((((w2.setCell ⟨w.heap.size, 0, none⟩ (.bool true)).setCell ⟨w.heap.size, 1, none⟩ (.slice A' n' c')).setCell ⟨w.heap.size, 2, none⟩ (.int .i64 E')).setCell ⟨w.heap.size + 1, 0, none⟩ (.bool false)).setCell ⟨w.heap.size + 1, 1, none⟩ (.slice A n c)).setCell ⟨w.heap.size + 1, 2, none⟩ (.int .i64 E)) = w3 at *
  go_wp2_with fail
  go_loopw [7, 8, 11] (fun L cc p wr => ∃ (q b : Nat) (Ls : List Nat), q ≤ N ∧ b ≤ 1 ∧ cc = .int .i64 (b : Int) ∧ p = .int .i64 (fr + (q : Int)) ∧ Hid (Ls.length = q ∧ Digs 65536 Ls ∧ ofd 65536 Ls + dsum l E fr q = dsum l' E' fr q + 65536 ^ q * b) ∧ wr.ownsRow (w.heap.size + 1 + 1 + 1) 3 1 L q (ints Ls) ∧ Below w.heap.size w wr ∧ Blk wr w.heap.size 69 #[.bool true, .slice A' n' c', .int .i64 E'] ∧ Blk wr (w.heap.size + 1) 69 #[.bool false, .slice A n c, .int .i64 E] ∧ Blk wr (w.heap.size + 1 + 1) 69 #[.bool false, .slice none 0 0, .int .i64 0] ∧ w.heap.size + 1 + 1 + 1 ≤ wr.heap.size) (fun _ _ p _ => (tz - intOf p).toNat)
  case atStart => exact ⟨0, 0, [], Nat.zero_le _, by omega, rfl, by simp, Lib.hid ⟨rfl, Digs.nil _, by simp [ofd, dsum]⟩, World.ownsRow_nil _ _ _ _, HB3.out, HX3.out, HY3.out, HR3.out, HZ3.out⟩
  case round =>
    clear HX1 HY1 HR1 HB1 HZ1 HX2 HY2 HR2 HB2 HZ2 HX3 HY3 HR3 HB3 HZ3 HSz
    obtain ⟨q, b, Ls, hq, hcr, rfl, rfl, HL, hO, hB, hX, hY, hR, hZ⟩ := hrel
    have HOr := Lib.hid hO
    have HBr := Lib.hid hB
    have HXr := Lib.hid hX
    have HYr := Lib.hid hY
    have HRr := Lib.hid hR
    have HZr := Lib.hid hZ
    clear hO hB hX hY hR hZ
    by_cases hlt : q < N
    · have hq1 : q + 1 ≤ 4294967296 := by have := HNb.out; omega
      obtain ⟨P, hP⟩ : ∃ P, fr + (q : Int) = P := ⟨_, rfl⟩
      have hp1 : wrap64 (P + 1) = P + 1 := wrap64_in (by have := HFb.out; have := HNn.out; omega)
      have hlt2 : decide (P < tz) = true := by simp; have := HNn.out; omega
      have HPb := Lib.hid (show P.natAbs ≤ 1099511627776 by have := HFb.out; have := HNn.out; omega)
      have HPP := Lib.hid hP
      rw [hP]
      obtain ⟨x, hx⟩ : ∃ x, dat l' E' P = x := ⟨_, rfl⟩
      obtain ⟨y, hy⟩ : ∃ y, dat l E P = y := ⟨_, rfl⟩
      have hx6 : x < 65536 := by rw [← hx]; exact dat_lt HS.out.2 _ _
      have hy6 : y < 65536 := by rw [← hy]; exact dat_lt HS.out.1 _ _
      have HAtP := Lib.hid (fun W (hb : Below w.heap.size w W) => HAt.out W hb P HPb.out)
      have HAtP' := Lib.hid (fun W (hb : Below w.heap.size w W) => HAt'.out W hb P HPb.out)
      rw [hy] at HAtP
      rw [hx] at HAtP'
      have HXY := Lib.hid (And.intro hx hy)
      clear hx hy hP
      obtain ⟨a0, a1, a2⟩ := cells3 HXr.out
      obtain ⟨b0, b1, b2⟩ := cells3 HYr.out
      obtain ⟨U, hU⟩ : ∃ U : Int, (x : Int) - (y : Int) = U := ⟨_, rfl⟩
      obtain ⟨V, hV⟩ : ∃ V : Int, U - (b : Int) = V := ⟨_, rfl⟩
      have wU : IntKind.i64.wrap U = U := iwrap_in (by omega)
      have wV : IntKind.i64.wrap V = V := iwrap_in (by omega)
      have HUV := Lib.hid (show (x : Int) - (y : Int) - (b : Int) = V by omega)
      have HLT := Lib.hid (And.intro hlt hq)
      have HB01 := Lib.hid (And.intro hcr (And.intro hx6 hy6))
      clear hlt hcr hx6 hy6
      go_wp2_with fail
      refine wp_region_inv [83, 84, 85, 86, 87, 88, 89, 90, 91, 12] (fun d s W => (d 0 = true → s 83 = .agg #[.bool true, .slice A' n' c', .int .i64 E']) ∧ (d 1 = true → s 84 = .int .i64 P) ∧ (d 2 = true → s 85 = .int .i64 (x : Int)) ∧ (d 3 = true → s 86 = .agg #[.bool false, .slice A n c, .int .i64 E]) ∧ (d 4 = true → s 87 = .int .i64 P) ∧ (d 5 = true → s 88 = .int .i64 (y : Int)) ∧ (d 6 = true → s 89 = .int .i64 U) ∧ (d 7 = true → s 90 = .int .i64 (b : Int)) ∧ (d 8 = true → s 91 = .int .i64 V) ∧ (d 9 = true → s 12 = .int .i64 V) ∧ Below wr.heap.size wr W)
        rfl (by kernel_rfl) ?_ ?_ ?_
      · exact ⟨by simp, by simp, by simp, by simp, by simp, by simp, by simp, by simp, by simp, by simp, (Below.refl _ _).drew⟩
      · refine ⟨?_, ?_, ?_, ?_, ?_, ?_, ?_, ?_, ?_, ?_, trivial⟩
        all_goals
          intro d s W hJ hfr hd hdep
          simp only [List.mem_cons, forall_eq_or_imp, List.not_mem_nil, false_implies, implies_true, and_true, Region.binds] at hdep
          have f2 := hfr 2 (by decide)
          have f3 := hfr 3 (by decide)
          have f8 := hfr 8 (by decide)
          have f11 := hfr 11 (by decide)
          simp at f2 f3 f8 f11 hdep
          obtain ⟨h0, h1, h2, h3, h4, h5, h6, h7, h8, h9, hT⟩ := hJ
        · unfold OpSteps
          obtain ⟨p0, p1, p2⟩ := cells3 (HXr.out.below hT HXr.out.lt)
          simp [go_sem, evS, f2, p0, p1, p2]
          exact ⟨fun _ => by simp [sput], fun h => by simpa [sput] using h1 (by simpa [did] using h), fun h => by simpa [sput] using h2 (by simpa [did] using h), fun h => by simpa [sput] using h3 (by simpa [did] using h), fun h => by simpa [sput] using h4 (by simpa [did] using h), fun h => by simpa [sput] using h5 (by simpa [did] using h), fun h => by simpa [sput] using h6 (by simpa [did] using h), fun h => by simpa [sput] using h7 (by simpa [did] using h), fun h => by simpa [sput] using h8 (by simpa [did] using h), fun h => by simpa [sput] using h9 (by simpa [did] using h), hT⟩
        · unfold OpSteps
          simp [go_sem, evS, f11]
          exact ⟨fun h => by simpa [sput] using h0 (by simpa [did] using h), fun _ => by simp [sput], fun h => by simpa [sput] using h2 (by simpa [did] using h), fun h => by simpa [sput] using h3 (by simpa [did] using h), fun h => by simpa [sput] using h4 (by simpa [did] using h), fun h => by simpa [sput] using h5 (by simpa [did] using h), fun h => by simpa [sput] using h6 (by simpa [did] using h), fun h => by simpa [sput] using h7 (by simpa [did] using h), fun h => by simpa [sput] using h8 (by simpa [did] using h), fun h => by simpa [sput] using h9 (by simpa [did] using h), hT⟩
        · have fz0 := h0 (by simp [hdep])
          have fz1 := h1 (by simp [hdep])
          unfold OpSteps
          simp [go_sem, evS, fz0, fz1]
          refine (HAtP'.out W (below_nx HBr.out hT)).mono ?_
          rintro e W' ⟨rfl, hb⟩
          refine ⟨_, rfl, ?_⟩
          exact ⟨fun h => by simpa [sput] using h0 (by simpa [did] using h), fun h => by simpa [sput] using h1 (by simpa [did] using h), fun _ => by simp [sput], fun h => by simpa [sput] using h3 (by simpa [did] using h), fun h => by simpa [sput] using h4 (by simpa [did] using h), fun h => by simpa [sput] using h5 (by simpa [did] using h), fun h => by simpa [sput] using h6 (by simpa [did] using h), fun h => by simpa [sput] using h7 (by simpa [did] using h), fun h => by simpa [sput] using h8 (by simpa [did] using h), fun h => by simpa [sput] using h9 (by simpa [did] using h), below_nx hT hb⟩
        · unfold OpSteps
          obtain ⟨p0, p1, p2⟩ := cells3 (HYr.out.below hT HYr.out.lt)
          simp [go_sem, evS, f3, p0, p1, p2]
          exact ⟨fun h => by simpa [sput] using h0 (by simpa [did] using h), fun h => by simpa [sput] using h1 (by simpa [did] using h), fun h => by simpa [sput] using h2 (by simpa [did] using h), fun _ => by simp [sput], fun h => by simpa [sput] using h4 (by simpa [did] using h), fun h => by simpa [sput] using h5 (by simpa [did] using h), fun h => by simpa [sput] using h6 (by simpa [did] using h), fun h => by simpa [sput] using h7 (by simpa [did] using h), fun h => by simpa [sput] using h8 (by simpa [did] using h), fun h => by simpa [sput] using h9 (by simpa [did] using h), hT⟩
        · unfold OpSteps
          simp [go_sem, evS, f11]
          exact ⟨fun h => by simpa [sput] using h0 (by simpa [did] using h), fun h => by simpa [sput] using h1 (by simpa [did] using h), fun h => by simpa [sput] using h2 (by simpa [did] using h), fun h => by simpa [sput] using h3 (by simpa [did] using h), fun _ => by simp [sput], fun h => by simpa [sput] using h5 (by simpa [did] using h), fun h => by simpa [sput] using h6 (by simpa [did] using h), fun h => by simpa [sput] using h7 (by simpa [did] using h), fun h => by simpa [sput] using h8 (by simpa [did] using h), fun h => by simpa [sput] using h9 (by simpa [did] using h), hT⟩
        · have fz3 := h3 (by simp [hdep])
          have fz4 := h4 (by simp [hdep])
          unfold OpSteps
          simp [go_sem, evS, fz3, fz4]
          refine (HAtP.out W (below_nx HBr.out hT)).mono ?_
          rintro e W' ⟨rfl, hb⟩
          refine ⟨_, rfl, ?_⟩
          exact ⟨fun h => by simpa [sput] using h0 (by simpa [did] using h), fun h => by simpa [sput] using h1 (by simpa [did] using h), fun h => by simpa [sput] using h2 (by simpa [did] using h), fun h => by simpa [sput] using h3 (by simpa [did] using h), fun h => by simpa [sput] using h4 (by simpa [did] using h), fun _ => by simp [sput], fun h => by simpa [sput] using h6 (by simpa [did] using h), fun h => by simpa [sput] using h7 (by simpa [did] using h), fun h => by simpa [sput] using h8 (by simpa [did] using h), fun h => by simpa [sput] using h9 (by simpa [did] using h), below_nx hT hb⟩
        · have fz2 := h2 (by simp [hdep])
          have fz5 := h5 (by simp [hdep])
          unfold OpSteps
          simp [go_sem, evS, fz2, fz5, hU, wU]
          exact ⟨fun h => by simpa [sput] using h0 (by simpa [did] using h), fun h => by simpa [sput] using h1 (by simpa [did] using h), fun h => by simpa [sput] using h2 (by simpa [did] using h), fun h => by simpa [sput] using h3 (by simpa [did] using h), fun h => by simpa [sput] using h4 (by simpa [did] using h), fun h => by simpa [sput] using h5 (by simpa [did] using h), fun _ => by simp [sput], fun h => by simpa [sput] using h7 (by simpa [did] using h), fun h => by simpa [sput] using h8 (by simpa [did] using h), fun h => by simpa [sput] using h9 (by simpa [did] using h), hT⟩
        · unfold OpSteps
          simp [go_sem, evS, f8]
          exact ⟨fun h => by simpa [sput] using h0 (by simpa [did] using h), fun h => by simpa [sput] using h1 (by simpa [did] using h), fun h => by simpa [sput] using h2 (by simpa [did] using h), fun h => by simpa [sput] using h3 (by simpa [did] using h), fun h => by simpa [sput] using h4 (by simpa [did] using h), fun h => by simpa [sput] using h5 (by simpa [did] using h), fun h => by simpa [sput] using h6 (by simpa [did] using h), fun _ => by simp [sput], fun h => by simpa [sput] using h8 (by simpa [did] using h), fun h => by simpa [sput] using h9 (by simpa [did] using h), hT⟩
        · have fz6 := h6 (by simp [hdep])
          have fz7 := h7 (by simp [hdep])
          unfold OpSteps
          simp [go_sem, evS, fz6, fz7, hV, wV]
          exact ⟨fun h => by simpa [sput] using h0 (by simpa [did] using h), fun h => by simpa [sput] using h1 (by simpa [did] using h), fun h => by simpa [sput] using h2 (by simpa [did] using h), fun h => by simpa [sput] using h3 (by simpa [did] using h), fun h => by simpa [sput] using h4 (by simpa [did] using h), fun h => by simpa [sput] using h5 (by simpa [did] using h), fun h => by simpa [sput] using h6 (by simpa [did] using h), fun h => by simpa [sput] using h7 (by simpa [did] using h), fun _ => by simp [sput], fun h => by simpa [sput] using h9 (by simpa [did] using h), hT⟩
        · have fz8 := h8 (by simp [hdep])
          unfold OpSteps
          simp [go_sem, evS, fz8]
          exact ⟨fun h => by simpa [sput] using h0 (by simpa [did] using h), fun h => by simpa [sput] using h1 (by simpa [did] using h), fun h => by simpa [sput] using h2 (by simpa [did] using h), fun h => by simpa [sput] using h3 (by simpa [did] using h), fun h => by simpa [sput] using h4 (by simpa [did] using h), fun h => by simpa [sput] using h5 (by simpa [did] using h), fun h => by simpa [sput] using h6 (by simpa [did] using h), fun h => by simpa [sput] using h7 (by simpa [did] using h), fun h => by simpa [sput] using h8 (by simpa [did] using h), fun _ => by simp [sput], hT⟩
      intro d s W hJ hd
      obtain ⟨h0, h1, h2, h3, h4, h5, h6, h7, h8, h9, hT⟩ := hJ
      have hs12 := h9 (hd 9 (by decide))
      have hb : Below wr.heap.size wr W := hT
      clear h0 h1 h2 h3 h4 h5 h6 h7 h8 h9 hT hd
      simp [setAll, hs12]
      clear hs12
      generalize s 83 = s83
      generalize s 84 = s84
      generalize s 85 = s85
      generalize s 86 = s86
      generalize s 87 = s87
      generalize s 88 = s88
      generalize s 89 = s89
      generalize s 90 = s90
      generalize s 91 = s91
      have HX2 := Lib.hid (HXr.out.next hb)
      have HY2 := Lib.hid (HYr.out.next hb)
      have HR2 := Lib.hid (HRr.out.next hb)
      have HB2 := Lib.hid (below_nx HBr.out hb)
      have HZ2 := Lib.hid (Nat.le_trans HZr.out hb.size)
      have HO2 := Lib.hid (ownsRow_below HOr.out hb)
      clear hb a0 a1 a2 b0 b1 b2
      generalize W = w2 at *
      clear hU hV wU wV hlt2
      by_cases hbw : y + b ≤ x
      · obtain ⟨z, hz, hVz, hz6, ht⟩ := borrow_facts0 HUV.out hbw HB01.out.2.1
        have HVz := Lib.hid hVz
        have HStep := Lib.hid (show (Ls ++ [z]).length = q + 1 ∧ Digs 65536 (Ls ++ [z]) ∧ ofd 65536 (Ls ++ [z]) + dsum l E fr (q + 1) = dsum l' E' fr (q + 1) + 65536 ^ (q + 1) * 0 from by
          refine ⟨by simp [HL.out.1], Digs.append HL.out.2.1 (Digs.cons hz6 (Digs.nil _)), ?_⟩
          have := borrow_none (x := x) (y := y) HL.out.1 HL.out.2.2 hbw
          rw [hz] at this
          rw [dsum, dsum, HPP.out, HXY.out.1, HXY.out.2]
          exact this)
        clear hz hbw hVz hz6
        have HOaa := Lib.hid (HO2.out.alloc (.cells #[.int .i64 V] 3))
        go_wp2_with (at_builtin; refine wpList_append_own _ rfl _ _ 27 rfl (w.heap.size + 1 + 1 + 1) 3 i0 (.int .i64 0) 1 8 Try.underlying27 hi hz0 hz1 hz2 rfl (by decide) _ q (ints Ls) rfl HOaa.out ⟨w2.heap.size, 0, none⟩ 1 1 [.int .i64 V] rfl rfl ?c1a (by intro u hu; simp at hu; subst hu; rfl) ?c3a ?c4a ?c5a ?_)
        case c1a => exact cell_one_new _ _ _
        case c3a => unfold maxLen; have := HNb.out; omega
        case c4a => have := HNb.out; omega
        case c5a => (try simp); have := HZ2.out; omega
        intro v' w3 hown' hgrow _
        have hal := (Below.refl w2.heap.size w2).alloc (Nat.le_refl _) (.cells #[.int .i64 V] 3)
        have hgx : ∀ k, k < w.heap.size + 1 + 1 + 1 → w3.heap[k]? = w2.heap[k]? := fun k hk => (hgrow.block k (by simp; have := HZ2.out; omega) (fun e => by have := (HOaa.out.lt k e.symm).1; omega)).trans (hal.block k (by have := HZ2.out; omega))
        have HX3 := Lib.hid (show Blk w3 w.heap.size 69 _ from (hgx _ (by omega)).trans HX2.out)
        have HY3 := Lib.hid (show Blk w3 (w.heap.size + 1) 69 _ from (hgx _ (by omega)).trans HY2.out)
        have HR3 := Lib.hid (show Blk w3 (w.heap.size + 1 + 1) 69 _ from (hgx _ (by omega)).trans HR2.out)
        have HB3 := Lib.hid ((below_nx HB2.out hal).grown hgrow (by simp; have := HZ2.out; omega) (fun k hk => by have := (HOaa.out.lt k hk).1; omega))
        have HZ3 := Lib.hid (show w.heap.size + 1 + 1 + 1 ≤ w3.heap.size by have := hgrow.size; have := HZ2.out; simp at *; omega)
        have HO3 := Lib.hid (show w3.ownsRow (w.heap.size + 1 + 1 + 1) 3 1 v' (q + 1) (ints (Ls ++ [z])) by rw [ints_snoc, ← HVz.out]; exact hown')
        clear hown' hgrow hal hgx
        go_wp2_with fail
        go_roundw
        case rel => exact ⟨q + 1, 0, Ls ++ [z], by have := HLT.out.1; omega, by omega, rfl, congrArg (Value.int .i64) (by have := HPP.out; rw [hp1]; omega), HStep, HO3.out, HB3.out, HX3.out, HY3.out, HR3.out, HZ3.out⟩
        case measure => have := HPP.out; have := HLT.out.1; have := HNn.out; rw [hp1]; simp [intOf]; omega
      · obtain ⟨z, hz, hVz, wz, hz6, ht, hbw1, hbw2⟩ := borrow_facts1 HUV.out hbw HB01.out.2.1 HB01.out.2.2 HB01.out.1
        have HStep := Lib.hid (show (Ls ++ [z]).length = q + 1 ∧ Digs 65536 (Ls ++ [z]) ∧ ofd 65536 (Ls ++ [z]) + dsum l E fr (q + 1) = dsum l' E' fr (q + 1) + 65536 ^ (q + 1) * 1 from by
          refine ⟨by simp [HL.out.1], Digs.append HL.out.2.1 (Digs.cons hz6 (Digs.nil _)), ?_⟩
          have := borrow_one (x := x) (y := y) HL.out.1 HL.out.2.2 hbw1 hbw2
          rw [hz] at this
          rw [dsum, dsum, HPP.out, HXY.out.1, HXY.out.2]
          exact this)
        clear hz hbw hbw1 hbw2 hz6
        have HOab := Lib.hid (HO2.out.alloc (.cells #[.int .i64 (z : Int)] 3))
        go_wp2_with (at_builtin; refine wpList_append_own _ rfl _ _ 27 rfl (w.heap.size + 1 + 1 + 1) 3 i0 (.int .i64 0) 1 8 Try.underlying27 hi hz0 hz1 hz2 rfl (by decide) _ q (ints Ls) rfl HOab.out ⟨w2.heap.size, 0, none⟩ 1 1 [.int .i64 (z : Int)] rfl rfl ?c1b (by intro u hu; simp at hu; subst hu; rfl) ?c3b ?c4b ?c5b ?_)
        case c1b => exact cell_one_new _ _ _
        case c3b => unfold maxLen; have := HNb.out; omega
        case c4b => have := HNb.out; omega
        case c5b => (try simp); have := HZ2.out; omega
        intro v' w3 hown' hgrow _
        have hal := (Below.refl w2.heap.size w2).alloc (Nat.le_refl _) (.cells #[.int .i64 (z : Int)] 3)
        have hgx : ∀ k, k < w.heap.size + 1 + 1 + 1 → w3.heap[k]? = w2.heap[k]? := fun k hk => (hgrow.block k (by simp; have := HZ2.out; omega) (fun e => by have := (HOab.out.lt k e.symm).1; omega)).trans (hal.block k (by have := HZ2.out; omega))
        have HX3 := Lib.hid (show Blk w3 w.heap.size 69 _ from (hgx _ (by omega)).trans HX2.out)
        have HY3 := Lib.hid (show Blk w3 (w.heap.size + 1) 69 _ from (hgx _ (by omega)).trans HY2.out)
        have HR3 := Lib.hid (show Blk w3 (w.heap.size + 1 + 1) 69 _ from (hgx _ (by omega)).trans HR2.out)
        have HB3 := Lib.hid ((below_nx HB2.out hal).grown hgrow (by simp; have := HZ2.out; omega) (fun k hk => by have := (HOab.out.lt k hk).1; omega))
        have HZ3 := Lib.hid (show w.heap.size + 1 + 1 + 1 ≤ w3.heap.size by have := hgrow.size; have := HZ2.out; simp at *; omega)
        have HO3 := Lib.hid (show w3.ownsRow (w.heap.size + 1 + 1 + 1) 3 1 v' (q + 1) (ints (Ls ++ [z])) by rw [ints_snoc]; exact hown')
        clear hown' hgrow hal hgx
        go_wp2_with fail
        go_roundw
        case rel => exact ⟨q + 1, 1, Ls ++ [z], by have := HLT.out.1; omega, by omega, rfl, congrArg (Value.int .i64) (by have := HPP.out; rw [hp1]; omega), HStep, HO3.out, HB3.out, HX3.out, HY3.out, HR3.out, HZ3.out⟩
        case measure => have := HPP.out; have := HLT.out.1; have := HNn.out; rw [hp1]; simp [intOf]; omega
    · obtain rfl : q = N := by omega
      have hlt2 : decide (fr + (q : Int) < tz) = false := by simp; have := HNn.out; omega
      obtain ⟨a0, a1, a2⟩ := cells3 HXr.out
      have HR3 := HRr
      have HB3 := HBr
      have HEnd := Lib.hid (borrow_end HL.out.1 HL.out.2.1 HL.out.2.2 (Nat.le_of_lt HC.out))
      have hrd := own_rd (n := q) HOr.out HL.out.2.1
      obtain ⟨Am, cm, rfl, hRm, hcm⟩ := hrd
      have HRm := Lib.hid hRm
      have Hcm := Lib.hid hcm
      clear hRm hcm
      go_wp2_with fail
      refine (made_any true Am q cm _ fr _ HRm.out (by have := HNb.out; omega) (by have := HFb.out; omega) Hcm.out).mono ?_
      rintro e w4 ⟨ng4, A4, n4, c4, E4, L4, rfl, hR4, hN4, hd4, hb⟩
      have HR4 := Lib.hid (HR3.out.next hb)
      have f0 := HR4.out.frozen 0
      have f1 := HR4.out.frozen 1
      have f2 := HR4.out.frozen 2
      obtain ⟨r0, r1, r2⟩ := cells3 HR4.out
      have HB4 := Lib.hid (below_nx HB3.out hb)
      have HRd4 := Lib.hid hR4
      have HN4 := Lib.hid hN4
      have HD4 := Lib.hid (show rdy ng4 L4 E4 = rdy false l E + rdy true l' E' from hd4.trans (by rw [HV1.out, HV2.out, dy_add, rdy_sgd, HEnd.out]; congr 1; rw [Int.add_comm]; exact (sgd_sub true (Nat.le_of_lt HC.out)).symm))
      clear hb hR4 hN4 hd4 a0 a1 a2
      go_wp2_with fail
      obtain ⟨q0, q1, q2⟩ := cells3 (Blk.store3 HR4.out (.bool ng4) (.slice A4 n4 c4) (.int .i64 E4))
      exact bodyPost_ret (v := .agg #[.bool ng4, .slice A4 n4 c4, .int .i64 E4]) (by simp [results, Try.results74, go_sem, q0, q1, q2]) rfl (retR_done HR4.out HRd4.out HN4.out HD4.out HB4.out (by omega))

set_option maxRecDepth 100000 in
set_option maxHeartbeats 8000000 in
theorem radd_s2 (A : Option Addr) (n c : Nat) (l : List Nat) (E : Int) (A' : Option Addr) (n' c' : Nat) (l' : List Nat) (E' : Int) (w : World) (h : Rd w A n c l) (h' : Rd w A' n' c' l') (hn : n ≤ 536870912) (hn' : n' ≤ 536870912) (hE : E.natAbs ≤ 1073741824) (hE' : E'.natAbs ≤ 1073741824) (h0 : n ≠ 0) (h1 : n' ≠ 0) (fr tz : Int) (N : Nat) (hf : endsF n E n' E' = (fr, tz)) (hN : fr + N = tz) (hC : dsum l E fr N < dsum l' E' fr N) :
    Calls Try.prog 74 #[.agg #[.bool true, .slice A n c, .int .i64 E], .agg #[.bool false, .slice A' n' c', .int .i64 E']] w (RetR (rdy true l E + rdy false l' E') w) := by
  have hfb := ends_bd hf hn hn' hE hE'
  have hends := ends_ok hf
  have HEn := Lib.hid (fun W => rends_any true A n c E false A' n' c' E' W (by omega) (by omega) (by omega) (by omega) fr tz hf)
  have HAt := Lib.hid (fun W (hb : Below w.heap.size w W) p (hp : p.natAbs ≤ 1099511627776) => rdat_any true A n c l E p W (h.below hb) (by omega) (by omega) hp)
  have HAt' := Lib.hid (fun W (hb : Below w.heap.size w W) p (hp : p.natAbs ≤ 1099511627776) => rdat_any false A' n' c' l' E' p W (h'.below hb) (by omega) (by omega) hp)
  have HS := Lib.hid (And.intro h.2.2.2.1 h'.2.2.2.1)
  have Hh := Lib.hid (And.intro h h')
  have HV1 := Lib.hid (show rdy true l E = dy (sgd true (dsum l E fr N)) (16 * fr) from dsum_val (by rw [← h.1]; exact hends.1) hN true)
  have HV2 := Lib.hid (show rdy false l' E' = dy (sgd false (dsum l' E' fr N)) (16 * fr) from dsum_val (by rw [← h'.1]; exact hends.2.1) hN false)
  have HFb := Lib.hid hfb
  have HNn := Lib.hid hN
  have HNb := Lib.hid (show N ≤ 4294967296 by omega)
  have HX := Lib.hid (((Blk.new w 69 #[.bool true, .slice A n c, .int .i64 E]).alloc (.cells #[.bool false, .slice A' n' c', .int .i64 E'] 69)).alloc (.cells #[.bool false, .slice none 0 0, .int .i64 0] 69))
  have HY := Lib.hid ((Blk.new_ (w.alloc (.cells #[.bool true, .slice A n c, .int .i64 E] 69)) 69 #[.bool false, .slice A' n' c', .int .i64 E'] (w.heap.size + 1) (by simp)).alloc (.cells #[.bool false, .slice none 0 0, .int .i64 0] 69))
  have HR := Lib.hid (Blk.new_ ((w.alloc (.cells #[.bool true, .slice A n c, .int .i64 E] 69)).alloc (.cells #[.bool false, .slice A' n' c', .int .i64 E'] 69)) 69 #[.bool false, .slice none 0 0, .int .i64 0] (w.heap.size + 1 + 1) (by simp))
  have HBl := Lib.hid ((((Below.refl w.heap.size w).alloc (Nat.le_refl _) (.cells #[.bool true, .slice A n c, .int .i64 E] 69)).alloc (by simp) (.cells #[.bool false, .slice A' n' c', .int .i64 E'] 69)).alloc (by simp; omega) (.cells #[.bool false, .slice none 0 0, .int .i64 0] 69))
  obtain ⟨i0, hi, hz0, hz1, hz2⟩ := info_parts info_i64
  have HSz := Lib.hid (fun W (hb : Below w.heap.size w W) r hr => rsize_any true A n c l E false A' n' c' l' E' W (h.below hb) (h'.below hb) (by omega) (by omega) (by omega) (by omega) fr tz N hf hN r hr)
  have hn0 : ((n : Int) == 0) = false := by simp; omega
  have hn1 : ((n' : Int) == 0) = false := by simp; omega
  have HC := Lib.hid hC
  clear h h' hn hn' hE hE' hf hfb hends hN h0 h1 hC
  go_enter Try.func74, Try.ntmps74
  obtain ⟨a0, a1, a2⟩ := cells3 HX.out
  obtain ⟨b0, b1, b2⟩ := cells3 HY.out
  go_wp2_with fail
  refine (HEn.out _).mono ?_
  rintro e w1 ⟨rfl, hb⟩
  have HX1 := Lib.hid (HX.out.next hb)
  have HY1 := Lib.hid (HY.out.next hb)
  have HR1 := Lib.hid (HR.out.next hb)
  have HB1 := Lib.hid (below_nx HBl.out hb)
  have HZ1 := Lib.hid (show w.heap.size + 1 + 1 + 1 ≤ w1.heap.size by have := HR1.out.lt; omega)
  clear hb a0 a1 a2 b0 b1 b2
  obtain ⟨a0, a1, a2⟩ := cells3 HX1.out
  obtain ⟨b0, b1, b2⟩ := cells3 HY1.out
  go_wp2_with fail
  clear a0 a1 a2 b0 b1 b2
  refine (HSz.out _ HB1.out (-1) (by rw [if_pos HC.out])).mono ?_
  rintro e w2 ⟨rfl, hb⟩
  have HX2 := Lib.hid (HX1.out.next hb)
  have HY2 := Lib.hid (HY1.out.next hb)
  have HR2 := Lib.hid (HR1.out.next hb)
  have HB2 := Lib.hid (below_nx HB1.out hb)
  have HZ2 := Lib.hid (Nat.le_trans HZ1.out hb.size)
  clear hb
  obtain ⟨a0, a1, a2⟩ := cells3 HX2.out
  obtain ⟨b0, b1, b2⟩ := cells3 HY2.out
  have fa0 := HX2.out.frozen 0
  have fa1 := HX2.out.frozen 1
  have fa2 := HX2.out.frozen 2
  have fb0 := HY2.out.frozen 0
  have fb1 := HY2.out.frozen 1
  have fb2 := HY2.out.frozen 2
  go_upto_region 15 with fail
  have HX3 := Lib.hid (show Blk ((((((w2.setCell ⟨w.heap.size, 0, none⟩ (.bool false)).setCell ⟨w.heap.size, 1, none⟩ (.slice A' n' c')).setCell ⟨w.heap.size, 2, none⟩ (.int .i64 E')).setCell ⟨w.heap.size + 1, 0, none⟩ (.bool true)).setCell ⟨w.heap.size + 1, 1, none⟩ (.slice A n c)).setCell ⟨w.heap.size + 1, 2, none⟩ (.int .i64 E)) w.heap.size 69 #[.bool false, .slice A' n' c', .int .i64 E'] from ((((Blk.store3 HX2.out (.bool false) (.slice A' n' c') (.int .i64 E')).other (p := ⟨w.heap.size + 1, 0, none⟩) (by simp <;> omega) (.bool true)).other (p := ⟨w.heap.size + 1, 1, none⟩) (by simp <;> omega) (.slice A n c)).other (p := ⟨w.heap.size + 1, 2, none⟩) (by simp <;> omega) (.int .i64 E)))
  have HY3 := Lib.hid (show Blk ((((((w2.setCell ⟨w.heap.size, 0, none⟩ (.bool false)).setCell ⟨w.heap.size, 1, none⟩ (.slice A' n' c')).setCell ⟨w.heap.size, 2, none⟩ (.int .i64 E')).setCell ⟨w.heap.size + 1, 0, none⟩ (.bool true)).setCell ⟨w.heap.size + 1, 1, none⟩ (.slice A n c)).setCell ⟨w.heap.size + 1, 2, none⟩ (.int .i64 E)) (w.heap.size + 1) 69 #[.bool true, .slice A n c, .int .i64 E] from Blk.store3 (((HY2.out.other (p := ⟨w.heap.size, 0, none⟩) (by simp <;> omega) (.bool false)).other (p := ⟨w.heap.size, 1, none⟩) (by simp <;> omega) (.slice A' n' c')).other (p := ⟨w.heap.size, 2, none⟩) (by simp <;> omega) (.int .i64 E')) (.bool true) (.slice A n c) (.int .i64 E))
  have HR3 := Lib.hid (show Blk ((((((w2.setCell ⟨w.heap.size, 0, none⟩ (.bool false)).setCell ⟨w.heap.size, 1, none⟩ (.slice A' n' c')).setCell ⟨w.heap.size, 2, none⟩ (.int .i64 E')).setCell ⟨w.heap.size + 1, 0, none⟩ (.bool true)).setCell ⟨w.heap.size + 1, 1, none⟩ (.slice A n c)).setCell ⟨w.heap.size + 1, 2, none⟩ (.int .i64 E)) (w.heap.size + 1 + 1) 69 #[.bool false, .slice none 0 0, .int .i64 0] from ((((((HR2.out.other (p := ⟨w.heap.size, 0, none⟩) (by simp <;> omega) (.bool false)).other (p := ⟨w.heap.size, 1, none⟩) (by simp <;> omega) (.slice A' n' c')).other (p := ⟨w.heap.size, 2, none⟩) (by simp <;> omega) (.int .i64 E')).other (p := ⟨w.heap.size + 1, 0, none⟩) (by simp <;> omega) (.bool true)).other (p := ⟨w.heap.size + 1, 1, none⟩) (by simp <;> omega) (.slice A n c)).other (p := ⟨w.heap.size + 1, 2, none⟩) (by simp <;> omega) (.int .i64 E)))
  have HB3 := Lib.hid (show Below w.heap.size w ((((((w2.setCell ⟨w.heap.size, 0, none⟩ (.bool false)).setCell ⟨w.heap.size, 1, none⟩ (.slice A' n' c')).setCell ⟨w.heap.size, 2, none⟩ (.int .i64 E')).setCell ⟨w.heap.size + 1, 0, none⟩ (.bool true)).setCell ⟨w.heap.size + 1, 1, none⟩ (.slice A n c)).setCell ⟨w.heap.size + 1, 2, none⟩ (.int .i64 E)) from ((((((HB2.out.setCell (p := ⟨w.heap.size, 0, none⟩) (Nat.le_refl _) _).setCell (p := ⟨w.heap.size, 1, none⟩) (Nat.le_refl _) _).setCell (p := ⟨w.heap.size, 2, none⟩) (Nat.le_refl _) _).setCell (p := ⟨w.heap.size + 1, 0, none⟩) (by simp) _).setCell (p := ⟨w.heap.size + 1, 1, none⟩) (by simp) _).setCell (p := ⟨w.heap.size + 1, 2, none⟩) (by simp) _))
  have HZ3 := Lib.hid (show w.heap.size + 1 + 1 + 1 ≤ ((((((w2.setCell ⟨w.heap.size, 0, none⟩ (.bool false)).setCell ⟨w.heap.size, 1, none⟩ (.slice A' n' c')).setCell ⟨w.heap.size, 2, none⟩ (.int .i64 E')).setCell ⟨w.heap.size + 1, 0, none⟩ (.bool true)).setCell ⟨w.heap.size + 1, 1, none⟩ (.slice A n c)).setCell ⟨w.heap.size + 1, 2, none⟩ (.int .i64 E)).heap.size by simpa [World.setCell] using HZ2.out)
  clear a0 a1 a2 b0 b1 b2 fa0 fa1 fa2 fb0 fb1 fb2
  generalize ((((((w2.setCell ⟨w.heap.size, 0, none⟩ (.bool false)).setCell ⟨w.heap.size, 1, none⟩ (.slice A' n' c')).setCell ⟨w.heap.size, 2, none⟩ (.int .i64 E')).setCell ⟨w.heap.size + 1, 0, none⟩ (.bool true)).setCell ⟨w.heap.size + 1, 1, none⟩ (.slice A n c)).setCell ⟨w.heap.size + 1, 2, none⟩ (.int .i64 E)) = w3 at *
  go_wp2_with fail
  go_loopw [7, 8, 11] (fun L cc p wr => ∃ (q b : Nat) (Ls : List Nat), q ≤ N ∧ b ≤ 1 ∧ cc = .int .i64 (b : Int) ∧ p = .int .i64 (fr + (q : Int)) ∧ Hid (Ls.length = q ∧ Digs 65536 Ls ∧ ofd 65536 Ls + dsum l E fr q = dsum l' E' fr q + 65536 ^ q * b) ∧ wr.ownsRow (w.heap.size + 1 + 1 + 1) 3 1 L q (ints Ls) ∧ Below w.heap.size w wr ∧ Blk wr w.heap.size 69 #[.bool false, .slice A' n' c', .int .i64 E'] ∧ Blk wr (w.heap.size + 1) 69 #[.bool true, .slice A n c, .int .i64 E] ∧ Blk wr (w.heap.size + 1 + 1) 69 #[.bool false, .slice none 0 0, .int .i64 0] ∧ w.heap.size + 1 + 1 + 1 ≤ wr.heap.size) (fun _ _ p _ => (tz - intOf p).toNat)
  case atStart => exact ⟨0, 0, [], Nat.zero_le _, by omega, rfl, by simp, Lib.hid ⟨rfl, Digs.nil _, by simp [ofd, dsum]⟩, World.ownsRow_nil _ _ _ _, HB3.out, HX3.out, HY3.out, HR3.out, HZ3.out⟩
  case round =>
    clear HX1 HY1 HR1 HB1 HZ1 HX2 HY2 HR2 HB2 HZ2 HX3 HY3 HR3 HB3 HZ3 HSz
    obtain ⟨q, b, Ls, hq, hcr, rfl, rfl, HL, hO, hB, hX, hY, hR, hZ⟩ := hrel
    have HOr := Lib.hid hO
    have HBr := Lib.hid hB
    have HXr := Lib.hid hX
    have HYr := Lib.hid hY
    have HRr := Lib.hid hR
    have HZr := Lib.hid hZ
    clear hO hB hX hY hR hZ
    by_cases hlt : q < N
    · have hq1 : q + 1 ≤ 4294967296 := by have := HNb.out; omega
      obtain ⟨P, hP⟩ : ∃ P, fr + (q : Int) = P := ⟨_, rfl⟩
      have hp1 : wrap64 (P + 1) = P + 1 := wrap64_in (by have := HFb.out; have := HNn.out; omega)
      have hlt2 : decide (P < tz) = true := by simp; have := HNn.out; omega
      have HPb := Lib.hid (show P.natAbs ≤ 1099511627776 by have := HFb.out; have := HNn.out; omega)
      have HPP := Lib.hid hP
      rw [hP]
      obtain ⟨x, hx⟩ : ∃ x, dat l' E' P = x := ⟨_, rfl⟩
      obtain ⟨y, hy⟩ : ∃ y, dat l E P = y := ⟨_, rfl⟩
      have hx6 : x < 65536 := by rw [← hx]; exact dat_lt HS.out.2 _ _
      have hy6 : y < 65536 := by rw [← hy]; exact dat_lt HS.out.1 _ _
      have HAtP := Lib.hid (fun W (hb : Below w.heap.size w W) => HAt.out W hb P HPb.out)
      have HAtP' := Lib.hid (fun W (hb : Below w.heap.size w W) => HAt'.out W hb P HPb.out)
      rw [hy] at HAtP
      rw [hx] at HAtP'
      have HXY := Lib.hid (And.intro hx hy)
      clear hx hy hP
      obtain ⟨a0, a1, a2⟩ := cells3 HXr.out
      obtain ⟨b0, b1, b2⟩ := cells3 HYr.out
      obtain ⟨U, hU⟩ : ∃ U : Int, (x : Int) - (y : Int) = U := ⟨_, rfl⟩
      obtain ⟨V, hV⟩ : ∃ V : Int, U - (b : Int) = V := ⟨_, rfl⟩
      have wU : IntKind.i64.wrap U = U := iwrap_in (by omega)
      have wV : IntKind.i64.wrap V = V := iwrap_in (by omega)
      have HUV := Lib.hid (show (x : Int) - (y : Int) - (b : Int) = V by omega)
      have HLT := Lib.hid (And.intro hlt hq)
      have HB01 := Lib.hid (And.intro hcr (And.intro hx6 hy6))
      clear hlt hcr hx6 hy6
      go_wp2_with fail
      refine wp_region_inv [83, 84, 85, 86, 87, 88, 89, 90, 91, 12] (fun d s W => (d 0 = true → s 83 = .agg #[.bool false, .slice A' n' c', .int .i64 E']) ∧ (d 1 = true → s 84 = .int .i64 P) ∧ (d 2 = true → s 85 = .int .i64 (x : Int)) ∧ (d 3 = true → s 86 = .agg #[.bool true, .slice A n c, .int .i64 E]) ∧ (d 4 = true → s 87 = .int .i64 P) ∧ (d 5 = true → s 88 = .int .i64 (y : Int)) ∧ (d 6 = true → s 89 = .int .i64 U) ∧ (d 7 = true → s 90 = .int .i64 (b : Int)) ∧ (d 8 = true → s 91 = .int .i64 V) ∧ (d 9 = true → s 12 = .int .i64 V) ∧ Below wr.heap.size wr W)
        rfl (by kernel_rfl) ?_ ?_ ?_
      · exact ⟨by simp, by simp, by simp, by simp, by simp, by simp, by simp, by simp, by simp, by simp, (Below.refl _ _).drew⟩
      · refine ⟨?_, ?_, ?_, ?_, ?_, ?_, ?_, ?_, ?_, ?_, trivial⟩
        all_goals
          intro d s W hJ hfr hd hdep
          simp only [List.mem_cons, forall_eq_or_imp, List.not_mem_nil, false_implies, implies_true, and_true, Region.binds] at hdep
          have f2 := hfr 2 (by decide)
          have f3 := hfr 3 (by decide)
          have f8 := hfr 8 (by decide)
          have f11 := hfr 11 (by decide)
          simp at f2 f3 f8 f11 hdep
          obtain ⟨h0, h1, h2, h3, h4, h5, h6, h7, h8, h9, hT⟩ := hJ
        · unfold OpSteps
          obtain ⟨p0, p1, p2⟩ := cells3 (HXr.out.below hT HXr.out.lt)
          simp [go_sem, evS, f2, p0, p1, p2]
          exact ⟨fun _ => by simp [sput], fun h => by simpa [sput] using h1 (by simpa [did] using h), fun h => by simpa [sput] using h2 (by simpa [did] using h), fun h => by simpa [sput] using h3 (by simpa [did] using h), fun h => by simpa [sput] using h4 (by simpa [did] using h), fun h => by simpa [sput] using h5 (by simpa [did] using h), fun h => by simpa [sput] using h6 (by simpa [did] using h), fun h => by simpa [sput] using h7 (by simpa [did] using h), fun h => by simpa [sput] using h8 (by simpa [did] using h), fun h => by simpa [sput] using h9 (by simpa [did] using h), hT⟩
        · unfold OpSteps
          simp [go_sem, evS, f11]
          exact ⟨fun h => by simpa [sput] using h0 (by simpa [did] using h), fun _ => by simp [sput], fun h => by simpa [sput] using h2 (by simpa [did] using h), fun h => by simpa [sput] using h3 (by simpa [did] using h), fun h => by simpa [sput] using h4 (by simpa [did] using h), fun h => by simpa [sput] using h5 (by simpa [did] using h), fun h => by simpa [sput] using h6 (by simpa [did] using h), fun h => by simpa [sput] using h7 (by simpa [did] using h), fun h => by simpa [sput] using h8 (by simpa [did] using h), fun h => by simpa [sput] using h9 (by simpa [did] using h), hT⟩
        · have fz0 := h0 (by simp [hdep])
          have fz1 := h1 (by simp [hdep])
          unfold OpSteps
          simp [go_sem, evS, fz0, fz1]
          refine (HAtP'.out W (below_nx HBr.out hT)).mono ?_
          rintro e W' ⟨rfl, hb⟩
          refine ⟨_, rfl, ?_⟩
          exact ⟨fun h => by simpa [sput] using h0 (by simpa [did] using h), fun h => by simpa [sput] using h1 (by simpa [did] using h), fun _ => by simp [sput], fun h => by simpa [sput] using h3 (by simpa [did] using h), fun h => by simpa [sput] using h4 (by simpa [did] using h), fun h => by simpa [sput] using h5 (by simpa [did] using h), fun h => by simpa [sput] using h6 (by simpa [did] using h), fun h => by simpa [sput] using h7 (by simpa [did] using h), fun h => by simpa [sput] using h8 (by simpa [did] using h), fun h => by simpa [sput] using h9 (by simpa [did] using h), below_nx hT hb⟩
        · unfold OpSteps
          obtain ⟨p0, p1, p2⟩ := cells3 (HYr.out.below hT HYr.out.lt)
          simp [go_sem, evS, f3, p0, p1, p2]
          exact ⟨fun h => by simpa [sput] using h0 (by simpa [did] using h), fun h => by simpa [sput] using h1 (by simpa [did] using h), fun h => by simpa [sput] using h2 (by simpa [did] using h), fun _ => by simp [sput], fun h => by simpa [sput] using h4 (by simpa [did] using h), fun h => by simpa [sput] using h5 (by simpa [did] using h), fun h => by simpa [sput] using h6 (by simpa [did] using h), fun h => by simpa [sput] using h7 (by simpa [did] using h), fun h => by simpa [sput] using h8 (by simpa [did] using h), fun h => by simpa [sput] using h9 (by simpa [did] using h), hT⟩
        · unfold OpSteps
          simp [go_sem, evS, f11]
          exact ⟨fun h => by simpa [sput] using h0 (by simpa [did] using h), fun h => by simpa [sput] using h1 (by simpa [did] using h), fun h => by simpa [sput] using h2 (by simpa [did] using h), fun h => by simpa [sput] using h3 (by simpa [did] using h), fun _ => by simp [sput], fun h => by simpa [sput] using h5 (by simpa [did] using h), fun h => by simpa [sput] using h6 (by simpa [did] using h), fun h => by simpa [sput] using h7 (by simpa [did] using h), fun h => by simpa [sput] using h8 (by simpa [did] using h), fun h => by simpa [sput] using h9 (by simpa [did] using h), hT⟩
        · have fz3 := h3 (by simp [hdep])
          have fz4 := h4 (by simp [hdep])
          unfold OpSteps
          simp [go_sem, evS, fz3, fz4]
          refine (HAtP.out W (below_nx HBr.out hT)).mono ?_
          rintro e W' ⟨rfl, hb⟩
          refine ⟨_, rfl, ?_⟩
          exact ⟨fun h => by simpa [sput] using h0 (by simpa [did] using h), fun h => by simpa [sput] using h1 (by simpa [did] using h), fun h => by simpa [sput] using h2 (by simpa [did] using h), fun h => by simpa [sput] using h3 (by simpa [did] using h), fun h => by simpa [sput] using h4 (by simpa [did] using h), fun _ => by simp [sput], fun h => by simpa [sput] using h6 (by simpa [did] using h), fun h => by simpa [sput] using h7 (by simpa [did] using h), fun h => by simpa [sput] using h8 (by simpa [did] using h), fun h => by simpa [sput] using h9 (by simpa [did] using h), below_nx hT hb⟩
        · have fz2 := h2 (by simp [hdep])
          have fz5 := h5 (by simp [hdep])
          unfold OpSteps
          simp [go_sem, evS, fz2, fz5, hU, wU]
          exact ⟨fun h => by simpa [sput] using h0 (by simpa [did] using h), fun h => by simpa [sput] using h1 (by simpa [did] using h), fun h => by simpa [sput] using h2 (by simpa [did] using h), fun h => by simpa [sput] using h3 (by simpa [did] using h), fun h => by simpa [sput] using h4 (by simpa [did] using h), fun h => by simpa [sput] using h5 (by simpa [did] using h), fun _ => by simp [sput], fun h => by simpa [sput] using h7 (by simpa [did] using h), fun h => by simpa [sput] using h8 (by simpa [did] using h), fun h => by simpa [sput] using h9 (by simpa [did] using h), hT⟩
        · unfold OpSteps
          simp [go_sem, evS, f8]
          exact ⟨fun h => by simpa [sput] using h0 (by simpa [did] using h), fun h => by simpa [sput] using h1 (by simpa [did] using h), fun h => by simpa [sput] using h2 (by simpa [did] using h), fun h => by simpa [sput] using h3 (by simpa [did] using h), fun h => by simpa [sput] using h4 (by simpa [did] using h), fun h => by simpa [sput] using h5 (by simpa [did] using h), fun h => by simpa [sput] using h6 (by simpa [did] using h), fun _ => by simp [sput], fun h => by simpa [sput] using h8 (by simpa [did] using h), fun h => by simpa [sput] using h9 (by simpa [did] using h), hT⟩
        · have fz6 := h6 (by simp [hdep])
          have fz7 := h7 (by simp [hdep])
          unfold OpSteps
          simp [go_sem, evS, fz6, fz7, hV, wV]
          exact ⟨fun h => by simpa [sput] using h0 (by simpa [did] using h), fun h => by simpa [sput] using h1 (by simpa [did] using h), fun h => by simpa [sput] using h2 (by simpa [did] using h), fun h => by simpa [sput] using h3 (by simpa [did] using h), fun h => by simpa [sput] using h4 (by simpa [did] using h), fun h => by simpa [sput] using h5 (by simpa [did] using h), fun h => by simpa [sput] using h6 (by simpa [did] using h), fun h => by simpa [sput] using h7 (by simpa [did] using h), fun _ => by simp [sput], fun h => by simpa [sput] using h9 (by simpa [did] using h), hT⟩
        · have fz8 := h8 (by simp [hdep])
          unfold OpSteps
          simp [go_sem, evS, fz8]
          exact ⟨fun h => by simpa [sput] using h0 (by simpa [did] using h), fun h => by simpa [sput] using h1 (by simpa [did] using h), fun h => by simpa [sput] using h2 (by simpa [did] using h), fun h => by simpa [sput] using h3 (by simpa [did] using h), fun h => by simpa [sput] using h4 (by simpa [did] using h), fun h => by simpa [sput] using h5 (by simpa [did] using h), fun h => by simpa [sput] using h6 (by simpa [did] using h), fun h => by simpa [sput] using h7 (by simpa [did] using h), fun h => by simpa [sput] using h8 (by simpa [did] using h), fun _ => by simp [sput], hT⟩
      intro d s W hJ hd
      obtain ⟨h0, h1, h2, h3, h4, h5, h6, h7, h8, h9, hT⟩ := hJ
      have hs12 := h9 (hd 9 (by decide))
      have hb : Below wr.heap.size wr W := hT
      clear h0 h1 h2 h3 h4 h5 h6 h7 h8 h9 hT hd
      simp [setAll, hs12]
      clear hs12
      generalize s 83 = s83
      generalize s 84 = s84
      generalize s 85 = s85
      generalize s 86 = s86
      generalize s 87 = s87
      generalize s 88 = s88
      generalize s 89 = s89
      generalize s 90 = s90
      generalize s 91 = s91
      have HX2 := Lib.hid (HXr.out.next hb)
      have HY2 := Lib.hid (HYr.out.next hb)
      have HR2 := Lib.hid (HRr.out.next hb)
      have HB2 := Lib.hid (below_nx HBr.out hb)
      have HZ2 := Lib.hid (Nat.le_trans HZr.out hb.size)
      have HO2 := Lib.hid (ownsRow_below HOr.out hb)
      clear hb a0 a1 a2 b0 b1 b2
      generalize W = w2 at *
      clear hU hV wU wV hlt2
      by_cases hbw : y + b ≤ x
      · obtain ⟨z, hz, hVz, hz6, ht⟩ := borrow_facts0 HUV.out hbw HB01.out.2.1
        have HVz := Lib.hid hVz
        have HStep := Lib.hid (show (Ls ++ [z]).length = q + 1 ∧ Digs 65536 (Ls ++ [z]) ∧ ofd 65536 (Ls ++ [z]) + dsum l E fr (q + 1) = dsum l' E' fr (q + 1) + 65536 ^ (q + 1) * 0 from by
          refine ⟨by simp [HL.out.1], Digs.append HL.out.2.1 (Digs.cons hz6 (Digs.nil _)), ?_⟩
          have := borrow_none (x := x) (y := y) HL.out.1 HL.out.2.2 hbw
          rw [hz] at this
          rw [dsum, dsum, HPP.out, HXY.out.1, HXY.out.2]
          exact this)
        clear hz hbw hVz hz6
        have HOaa := Lib.hid (HO2.out.alloc (.cells #[.int .i64 V] 3))
        go_wp2_with (at_builtin; refine wpList_append_own _ rfl _ _ 27 rfl (w.heap.size + 1 + 1 + 1) 3 i0 (.int .i64 0) 1 8 Try.underlying27 hi hz0 hz1 hz2 rfl (by decide) _ q (ints Ls) rfl HOaa.out ⟨w2.heap.size, 0, none⟩ 1 1 [.int .i64 V] rfl rfl ?c1a (by intro u hu; simp at hu; subst hu; rfl) ?c3a ?c4a ?c5a ?_)
        case c1a => exact cell_one_new _ _ _
        case c3a => unfold maxLen; have := HNb.out; omega
        case c4a => have := HNb.out; omega
        case c5a => (try simp); have := HZ2.out; omega
        intro v' w3 hown' hgrow _
        have hal := (Below.refl w2.heap.size w2).alloc (Nat.le_refl _) (.cells #[.int .i64 V] 3)
        have hgx : ∀ k, k < w.heap.size + 1 + 1 + 1 → w3.heap[k]? = w2.heap[k]? := fun k hk => (hgrow.block k (by simp; have := HZ2.out; omega) (fun e => by have := (HOaa.out.lt k e.symm).1; omega)).trans (hal.block k (by have := HZ2.out; omega))
        have HX3 := Lib.hid (show Blk w3 w.heap.size 69 _ from (hgx _ (by omega)).trans HX2.out)
        have HY3 := Lib.hid (show Blk w3 (w.heap.size + 1) 69 _ from (hgx _ (by omega)).trans HY2.out)
        have HR3 := Lib.hid (show Blk w3 (w.heap.size + 1 + 1) 69 _ from (hgx _ (by omega)).trans HR2.out)
        have HB3 := Lib.hid ((below_nx HB2.out hal).grown hgrow (by simp; have := HZ2.out; omega) (fun k hk => by have := (HOaa.out.lt k hk).1; omega))
        have HZ3 := Lib.hid (show w.heap.size + 1 + 1 + 1 ≤ w3.heap.size by have := hgrow.size; have := HZ2.out; simp at *; omega)
        have HO3 := Lib.hid (show w3.ownsRow (w.heap.size + 1 + 1 + 1) 3 1 v' (q + 1) (ints (Ls ++ [z])) by rw [ints_snoc, ← HVz.out]; exact hown')
        clear hown' hgrow hal hgx
        go_wp2_with fail
        go_roundw
        case rel => exact ⟨q + 1, 0, Ls ++ [z], by have := HLT.out.1; omega, by omega, rfl, congrArg (Value.int .i64) (by have := HPP.out; rw [hp1]; omega), HStep, HO3.out, HB3.out, HX3.out, HY3.out, HR3.out, HZ3.out⟩
        case measure => have := HPP.out; have := HLT.out.1; have := HNn.out; rw [hp1]; simp [intOf]; omega
      · obtain ⟨z, hz, hVz, wz, hz6, ht, hbw1, hbw2⟩ := borrow_facts1 HUV.out hbw HB01.out.2.1 HB01.out.2.2 HB01.out.1
        have HStep := Lib.hid (show (Ls ++ [z]).length = q + 1 ∧ Digs 65536 (Ls ++ [z]) ∧ ofd 65536 (Ls ++ [z]) + dsum l E fr (q + 1) = dsum l' E' fr (q + 1) + 65536 ^ (q + 1) * 1 from by
          refine ⟨by simp [HL.out.1], Digs.append HL.out.2.1 (Digs.cons hz6 (Digs.nil _)), ?_⟩
          have := borrow_one (x := x) (y := y) HL.out.1 HL.out.2.2 hbw1 hbw2
          rw [hz] at this
          rw [dsum, dsum, HPP.out, HXY.out.1, HXY.out.2]
          exact this)
        clear hz hbw hbw1 hbw2 hz6
        have HOab := Lib.hid (HO2.out.alloc (.cells #[.int .i64 (z : Int)] 3))
        go_wp2_with (at_builtin; refine wpList_append_own _ rfl _ _ 27 rfl (w.heap.size + 1 + 1 + 1) 3 i0 (.int .i64 0) 1 8 Try.underlying27 hi hz0 hz1 hz2 rfl (by decide) _ q (ints Ls) rfl HOab.out ⟨w2.heap.size, 0, none⟩ 1 1 [.int .i64 (z : Int)] rfl rfl ?c1b (by intro u hu; simp at hu; subst hu; rfl) ?c3b ?c4b ?c5b ?_)
        case c1b => exact cell_one_new _ _ _
        case c3b => unfold maxLen; have := HNb.out; omega
        case c4b => have := HNb.out; omega
        case c5b => (try simp); have := HZ2.out; omega
        intro v' w3 hown' hgrow _
        have hal := (Below.refl w2.heap.size w2).alloc (Nat.le_refl _) (.cells #[.int .i64 (z : Int)] 3)
        have hgx : ∀ k, k < w.heap.size + 1 + 1 + 1 → w3.heap[k]? = w2.heap[k]? := fun k hk => (hgrow.block k (by simp; have := HZ2.out; omega) (fun e => by have := (HOab.out.lt k e.symm).1; omega)).trans (hal.block k (by have := HZ2.out; omega))
        have HX3 := Lib.hid (show Blk w3 w.heap.size 69 _ from (hgx _ (by omega)).trans HX2.out)
        have HY3 := Lib.hid (show Blk w3 (w.heap.size + 1) 69 _ from (hgx _ (by omega)).trans HY2.out)
        have HR3 := Lib.hid (show Blk w3 (w.heap.size + 1 + 1) 69 _ from (hgx _ (by omega)).trans HR2.out)
        have HB3 := Lib.hid ((below_nx HB2.out hal).grown hgrow (by simp; have := HZ2.out; omega) (fun k hk => by have := (HOab.out.lt k hk).1; omega))
        have HZ3 := Lib.hid (show w.heap.size + 1 + 1 + 1 ≤ w3.heap.size by have := hgrow.size; have := HZ2.out; simp at *; omega)
        have HO3 := Lib.hid (show w3.ownsRow (w.heap.size + 1 + 1 + 1) 3 1 v' (q + 1) (ints (Ls ++ [z])) by rw [ints_snoc]; exact hown')
        clear hown' hgrow hal hgx
        go_wp2_with fail
        go_roundw
        case rel => exact ⟨q + 1, 1, Ls ++ [z], by have := HLT.out.1; omega, by omega, rfl, congrArg (Value.int .i64) (by have := HPP.out; rw [hp1]; omega), HStep, HO3.out, HB3.out, HX3.out, HY3.out, HR3.out, HZ3.out⟩
        case measure => have := HPP.out; have := HLT.out.1; have := HNn.out; rw [hp1]; simp [intOf]; omega
    · obtain rfl : q = N := by omega
      have hlt2 : decide (fr + (q : Int) < tz) = false := by simp; have := HNn.out; omega
      obtain ⟨a0, a1, a2⟩ := cells3 HXr.out
      have HR3 := HRr
      have HB3 := HBr
      have HEnd := Lib.hid (borrow_end HL.out.1 HL.out.2.1 HL.out.2.2 (Nat.le_of_lt HC.out))
      have hrd := own_rd (n := q) HOr.out HL.out.2.1
      obtain ⟨Am, cm, rfl, hRm, hcm⟩ := hrd
      have HRm := Lib.hid hRm
      have Hcm := Lib.hid hcm
      clear hRm hcm
      go_wp2_with fail
      refine (made_any false Am q cm _ fr _ HRm.out (by have := HNb.out; omega) (by have := HFb.out; omega) Hcm.out).mono ?_
      rintro e w4 ⟨ng4, A4, n4, c4, E4, L4, rfl, hR4, hN4, hd4, hb⟩
      have HR4 := Lib.hid (HR3.out.next hb)
      have f0 := HR4.out.frozen 0
      have f1 := HR4.out.frozen 1
      have f2 := HR4.out.frozen 2
      obtain ⟨r0, r1, r2⟩ := cells3 HR4.out
      have HB4 := Lib.hid (below_nx HB3.out hb)
      have HRd4 := Lib.hid hR4
      have HN4 := Lib.hid hN4
      have HD4 := Lib.hid (show rdy ng4 L4 E4 = rdy true l E + rdy false l' E' from hd4.trans (by rw [HV1.out, HV2.out, dy_add, rdy_sgd, HEnd.out]; congr 1; rw [Int.add_comm]; exact (sgd_sub false (Nat.le_of_lt HC.out)).symm))
      clear hb hR4 hN4 hd4 a0 a1 a2
      go_wp2_with fail
      obtain ⟨q0, q1, q2⟩ := cells3 (Blk.store3 HR4.out (.bool ng4) (.slice A4 n4 c4) (.int .i64 E4))
      exact bodyPost_ret (v := .agg #[.bool ng4, .slice A4 n4 c4, .int .i64 E4]) (by simp [results, Try.results74, go_sem, q0, q1, q2]) rfl (retR_done HR4.out HRd4.out HN4.out HD4.out HB4.out (by omega))

end Go.Proofs.Ytelpdbkkefpjhaa
