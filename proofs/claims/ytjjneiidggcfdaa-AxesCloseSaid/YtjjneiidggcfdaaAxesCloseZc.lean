/-
What the proof rests on: laws of floats, lists, memory and the walks of the functions. Conditions: as each says.
-/
import Derived.Test.YtjjneiidggcfdaaAxesCloseZb
import Derived.Below
import Derived.ChangeSame
import Derived.Laws.Cover2
import Derived.Test.YtjjneiidggcfdaaRows
import Derived.KernelRfl
import Derived.WalkKit
import Derived.Laws.Rows
import Derived.Deep.Draws
import Derived.Laws.OwnMore
import Derived.Lib.Hide
import Derived.Laws.FloatBits
import GoSem.Core.Float
import Derived.WalkLawsBesides
import Derived.Laws.BitsAllLaws
import Derived.WalkSpells
import Derived.LoopTactic
import Derived.Outline
import Derived.Laws.Externs
import Derived.Deep.QuietTactic
import Derived.BigQuiet
import Derived.RegionTactic
import Derived.Deep.Slices
import Derived.Deep.Fields
import Derived.Lib.BitFns
import Derived.Deep.RegionHeld3
import Derived.Deep.DrawnRows
import Derived.Deep.RegionWith
import Derived.Shelf.Spec.BitsCarry
import Derived.Deep.OwnRows
import Derived.Deep.DeepCutAuto
import Derived.IntWalk
import Derived.Shelf.Spec.TrailingZeros
import Derived.Lib.LaidTab
import Derived.Lib.ItoaNum
import Derived.Deep.CutBlock
import Derived.Laws.AppendOwn
import Derived.Orders
import Derived.RowKit3
import Derived.Maps.AppendAt
import Derived.Laws.FloatArith
import Derived.LaidEqlPtr
set_option linter.unusedVariables false
set_option linter.unusedSimpArgs false
set_option linter.unnecessarySimpa false
namespace Go.Proofs.Ytjjneiidggcfdaa
open Go.RowKit
attribute [local go_sem ↓] Go.wp_at_zero Go.wp_at_succ

theorem borrow_facts0 {x y b : Nat} {V : Int} (h : (x : Int) - (y : Int) - (b : Int) = V) (hbw : y + b ≤ x) (hx : x < 65536) : ∃ z : Nat, x - y - b = z ∧ V = (z : Int) ∧ z < 65536 ∧ decide (V < 0) = false :=
  ⟨x - y - b, rfl, by omega, by omega, decide_eq_false (by omega)⟩
theorem borrow_facts1 {x y b : Nat} {V : Int} (h : (x : Int) - (y : Int) - (b : Int) = V) (hbw : ¬ y + b ≤ x) (hx : x < 65536) (hy : y < 65536) (hb : b ≤ 1) : ∃ z : Nat, x + 65536 - y - b = z ∧ V + 65536 = (z : Int) ∧ wrap64 (z : Int) = (z : Int) ∧ z < 65536 ∧ decide (V < 0) = true ∧ x < y + b ∧ y + b ≤ x + 65536 :=
  ⟨x + 65536 - y - b, rfl, by omega, wrap_small (by omega), by omega, decide_eq_true (by omega), by omega, by omega⟩

set_option maxRecDepth 100000 in
set_option maxHeartbeats 8000000 in
theorem radd_n1 (A : Option Addr) (n c : Nat) (l : List Nat) (E : Int) (A' : Option Addr) (n' c' : Nat) (l' : List Nat) (E' : Int) (w : World) (h : Rd w A n c l) (h' : Rd w A' n' c' l') (hn : n ≤ 536870912) (hn' : n' ≤ 536870912) (hE : E.natAbs ≤ 1073741824) (hE' : E'.natAbs ≤ 1073741824) (h0 : n ≠ 0) (h1 : n' ≠ 0) (fr tz : Int) (N : Nat) (hf : endsF n E n' E' = (fr, tz)) (hN : fr + N = tz) (hC : dsum l' E' fr N ≤ dsum l E fr N) :
    Calls Try.prog 17 #[.agg #[.bool false, .slice A n c, .int .i64 E], .agg #[.bool true, .slice A' n' c', .int .i64 E']] w (RetR (rdy false l E + rdy true l' E') w) := by
  have hfb := ends_bd hf hn hn' hE hE'
  have hends := ends_ok hf
  have HEn := Lib.hid (fun W => rends_any false A n c E true A' n' c' E' W (by omega) (by omega) (by omega) (by omega) fr tz hf)
  have HAt := Lib.hid (fun W (hb : Below w.heap.size w W) p (hp : p.natAbs ≤ 1099511627776) => rdat_any false A n c l E p W (h.below hb) (by omega) (by omega) hp)
  have HAt' := Lib.hid (fun W (hb : Below w.heap.size w W) p (hp : p.natAbs ≤ 1099511627776) => rdat_any true A' n' c' l' E' p W (h'.below hb) (by omega) (by omega) hp)
  have HS := Lib.hid (And.intro h.2.2.2.1 h'.2.2.2.1)
  have Hh := Lib.hid (And.intro h h')
  have HV1 := Lib.hid (show rdy false l E = dy (sgd false (dsum l E fr N)) (16 * fr) from dsum_val (by rw [← h.1]; exact hends.1) hN false)
  have HV2 := Lib.hid (show rdy true l' E' = dy (sgd true (dsum l' E' fr N)) (16 * fr) from dsum_val (by rw [← h'.1]; exact hends.2.1) hN true)
  have HFb := Lib.hid hfb
  have HNn := Lib.hid hN
  have HNb := Lib.hid (show N ≤ 4294967296 by omega)
  have HX := Lib.hid (((Blk.new w 34 #[.bool false, .slice A n c, .int .i64 E]).alloc (.cells #[.bool true, .slice A' n' c', .int .i64 E'] 34)).alloc (.cells #[.bool false, .slice none 0 0, .int .i64 0] 34))
  have HY := Lib.hid ((Blk.new_ (w.alloc (.cells #[.bool false, .slice A n c, .int .i64 E] 34)) 34 #[.bool true, .slice A' n' c', .int .i64 E'] (w.heap.size + 1) (by simp)).alloc (.cells #[.bool false, .slice none 0 0, .int .i64 0] 34))
  have HR := Lib.hid (Blk.new_ ((w.alloc (.cells #[.bool false, .slice A n c, .int .i64 E] 34)).alloc (.cells #[.bool true, .slice A' n' c', .int .i64 E'] 34)) 34 #[.bool false, .slice none 0 0, .int .i64 0] (w.heap.size + 1 + 1) (by simp))
  have HBl := Lib.hid ((((Below.refl w.heap.size w).alloc (Nat.le_refl _) (.cells #[.bool false, .slice A n c, .int .i64 E] 34)).alloc (by simp) (.cells #[.bool true, .slice A' n' c', .int .i64 E'] 34)).alloc (by simp; omega) (.cells #[.bool false, .slice none 0 0, .int .i64 0] 34))
  obtain ⟨i0, hi, hz0, hz1, hz2⟩ := info_parts info_i64
  have HSz := Lib.hid (fun W (hb : Below w.heap.size w W) r hr => rsize_any false A n c l E true A' n' c' l' E' W (h.below hb) (h'.below hb) (by omega) (by omega) (by omega) (by omega) fr tz N hf hN r hr)
  have hn0 : ((n : Int) == 0) = false := by simp; omega
  have hn1 : ((n' : Int) == 0) = false := by simp; omega
  have HC := Lib.hid hC
  obtain ⟨r, hr⟩ : ∃ r : Int, r = if dsum l E fr N < dsum l' E' fr N then -1 else if dsum l E fr N = dsum l' E' fr N then 0 else 1 := ⟨_, rfl⟩
  have HRr0 := Lib.hid hr
  have hr0 : decide (r < 0) = false := by
    rw [if_neg (by omega)] at hr
    split at hr <;> (subst hr; rfl)
  clear h h' hn hn' hE hE' hf hfb hends hN h0 h1 hC hr
  go_enter Try.func17, Try.ntmps17
  obtain ⟨a0, a1, a2⟩ := cells3 HX.out
  obtain ⟨b0, b1, b2⟩ := cells3 HY.out
  go_wp2_with fail
  refine (HEn.out _).mono ?_
  rintro e w1 ⟨rfl, hb⟩
  have HX1 := Lib.hid (HX.out.next hb)
  have HY1 := Lib.hid (HY.out.next hb)
  have HR1 := Lib.hid (HR.out.next hb)
  have HB1 := Lib.hid (below_nx HBl.out hb)
  have HZ1 := Lib.hid (show w.heap.size + 1 + 1 + 1 ≤ w1.heap.size by have := HR1.out.lt; omega)
  clear hb a0 a1 a2 b0 b1 b2
  obtain ⟨a0, a1, a2⟩ := cells3 HX1.out
  obtain ⟨b0, b1, b2⟩ := cells3 HY1.out
  go_wp2_with fail
  clear a0 a1 a2 b0 b1 b2
  refine (HSz.out _ HB1.out _ HRr0.out).mono ?_
  rintro e w2 ⟨rfl, hb⟩
  have HX2 := Lib.hid (HX1.out.next hb)
  have HY2 := Lib.hid (HY1.out.next hb)
  have HR2 := Lib.hid (HR1.out.next hb)
  have HB2 := Lib.hid (below_nx HB1.out hb)
  have HZ2 := Lib.hid (Nat.le_trans HZ1.out hb.size)
  clear hb
  obtain ⟨a0, a1, a2⟩ := cells3 HX2.out
  obtain ⟨b0, b1, b2⟩ := cells3 HY2.out
  go_wp2_with fail
  clear a0 a1 a2 b0 b1 b2
  go_loopw [7, 8, 11] (fun L cc p wr => ∃ (q b : Nat) (Ls : List Nat), q ≤ N ∧ b ≤ 1 ∧ cc = .int .i64 (b : Int) ∧ p = .int .i64 (fr + (q : Int)) ∧ Hid (Ls.length = q ∧ Digs 65536 Ls ∧ ofd 65536 Ls + dsum l' E' fr q = dsum l E fr q + 65536 ^ q * b) ∧ wr.ownsRow (w.heap.size + 1 + 1 + 1) 3 1 L q (ints Ls) ∧ Below w.heap.size w wr ∧ Blk wr w.heap.size 34 #[.bool false, .slice A n c, .int .i64 E] ∧ Blk wr (w.heap.size + 1) 34 #[.bool true, .slice A' n' c', .int .i64 E'] ∧ Blk wr (w.heap.size + 1 + 1) 34 #[.bool false, .slice none 0 0, .int .i64 0] ∧ w.heap.size + 1 + 1 + 1 ≤ wr.heap.size) (fun _ _ p _ => (tz - intOf p).toNat)
  case atStart => exact ⟨0, 0, [], Nat.zero_le _, by omega, rfl, by simp, Lib.hid ⟨rfl, Digs.nil _, by simp [ofd, dsum]⟩, World.ownsRow_nil _ _ _ _, HB2.out, HX2.out, HY2.out, HR2.out, HZ2.out⟩
  case round =>
    clear HX1 HY1 HR1 HB1 HZ1 HX2 HY2 HR2 HB2 HZ2 HSz
    obtain ⟨q, b, Ls, hq, hcr, rfl, rfl, HL, hO, hB, hX, hY, hR, hZ⟩ := hrel
    have HOr := Lib.hid hO
    have HBr := Lib.hid hB
    have HXr := Lib.hid hX
    have HYr := Lib.hid hY
    have HRr := Lib.hid hR
    have HZr := Lib.hid hZ
    clear hO hB hX hY hR hZ
    by_cases hlt : q < N
    · have hq1 : q + 1 ≤ 4294967296 := by have := HNb.out; omega
      obtain ⟨P, hP⟩ : ∃ P, fr + (q : Int) = P := ⟨_, rfl⟩
      have hp1 : wrap64 (P + 1) = P + 1 := wrap64_in (by have := HFb.out; have := HNn.out; omega)
      have hlt2 : decide (P < tz) = true := by simp; have := HNn.out; omega
      have HPb := Lib.hid (show P.natAbs ≤ 1099511627776 by have := HFb.out; have := HNn.out; omega)
      have HPP := Lib.hid hP
      rw [hP]
      obtain ⟨x, hx⟩ : ∃ x, dat l E P = x := ⟨_, rfl⟩
      obtain ⟨y, hy⟩ : ∃ y, dat l' E' P = y := ⟨_, rfl⟩
      have hx6 : x < 65536 := by rw [← hx]; exact dat_lt HS.out.1 _ _
      have hy6 : y < 65536 := by rw [← hy]; exact dat_lt HS.out.2 _ _
      have HAtP := Lib.hid (fun W (hb : Below w.heap.size w W) => HAt.out W hb P HPb.out)
      have HAtP' := Lib.hid (fun W (hb : Below w.heap.size w W) => HAt'.out W hb P HPb.out)
      rw [hx] at HAtP
      rw [hy] at HAtP'
      have HXY := Lib.hid (And.intro hx hy)
      clear hx hy hP
      obtain ⟨a0, a1, a2⟩ := cells3 HXr.out
      obtain ⟨b0, b1, b2⟩ := cells3 HYr.out
      obtain ⟨U, hU⟩ : ∃ U : Int, (x : Int) - (y : Int) = U := ⟨_, rfl⟩
      obtain ⟨V, hV⟩ : ∃ V : Int, U - (b : Int) = V := ⟨_, rfl⟩
      have wU : IntKind.i64.wrap U = U := iwrap_in (by omega)
      have wV : IntKind.i64.wrap V = V := iwrap_in (by omega)
      have HUV := Lib.hid (show (x : Int) - (y : Int) - (b : Int) = V by omega)
      have HLT := Lib.hid (And.intro hlt hq)
      have HB01 := Lib.hid (And.intro hcr (And.intro hx6 hy6))
      clear hlt hcr hx6 hy6
      go_wp2_with fail
      refine wp_region_inv [83, 84, 85, 86, 87, 88, 89, 90, 91, 12] (fun d s W => (d 0 = true → s 83 = .agg #[.bool false, .slice A n c, .int .i64 E]) ∧ (d 1 = true → s 84 = .int .i64 P) ∧ (d 2 = true → s 85 = .int .i64 (x : Int)) ∧ (d 3 = true → s 86 = .agg #[.bool true, .slice A' n' c', .int .i64 E']) ∧ (d 4 = true → s 87 = .int .i64 P) ∧ (d 5 = true → s 88 = .int .i64 (y : Int)) ∧ (d 6 = true → s 89 = .int .i64 U) ∧ (d 7 = true → s 90 = .int .i64 (b : Int)) ∧ (d 8 = true → s 91 = .int .i64 V) ∧ (d 9 = true → s 12 = .int .i64 V) ∧ Below wr.heap.size wr W)
        rfl (by kernel_rfl) ?_ ?_ ?_
      · exact ⟨by simp, by simp, by simp, by simp, by simp, by simp, by simp, by simp, by simp, by simp, (Below.refl _ _).drew⟩
      · refine ⟨?_, ?_, ?_, ?_, ?_, ?_, ?_, ?_, ?_, ?_, trivial⟩
        all_goals
          intro d s W hJ hfr hd hdep
          simp only [List.mem_cons, forall_eq_or_imp, List.not_mem_nil, false_implies, implies_true, and_true, Region.binds] at hdep
          have f2 := hfr 2 (by decide)
          have f3 := hfr 3 (by decide)
          have f8 := hfr 8 (by decide)
          have f11 := hfr 11 (by decide)
          simp at f2 f3 f8 f11 hdep
          obtain ⟨h0, h1, h2, h3, h4, h5, h6, h7, h8, h9, hT⟩ := hJ
        · unfold OpSteps
          obtain ⟨p0, p1, p2⟩ := cells3 (HXr.out.below hT HXr.out.lt)
          simp [go_sem, evS, f2, p0, p1, p2]
          exact ⟨fun _ => by simp [sput], fun h => by simpa [sput] using h1 (by simpa [did] using h), fun h => by simpa [sput] using h2 (by simpa [did] using h), fun h => by simpa [sput] using h3 (by simpa [did] using h), fun h => by simpa [sput] using h4 (by simpa [did] using h), fun h => by simpa [sput] using h5 (by simpa [did] using h), fun h => by simpa [sput] using h6 (by simpa [did] using h), fun h => by simpa [sput] using h7 (by simpa [did] using h), fun h => by simpa [sput] using h8 (by simpa [did] using h), fun h => by simpa [sput] using h9 (by simpa [did] using h), hT⟩
        · unfold OpSteps
          simp [go_sem, evS, f11]
          exact ⟨fun h => by simpa [sput] using h0 (by simpa [did] using h), fun _ => by simp [sput], fun h => by simpa [sput] using h2 (by simpa [did] using h), fun h => by simpa [sput] using h3 (by simpa [did] using h), fun h => by simpa [sput] using h4 (by simpa [did] using h), fun h => by simpa [sput] using h5 (by simpa [did] using h), fun h => by simpa [sput] using h6 (by simpa [did] using h), fun h => by simpa [sput] using h7 (by simpa [did] using h), fun h => by simpa [sput] using h8 (by simpa [did] using h), fun h => by simpa [sput] using h9 (by simpa [did] using h), hT⟩
        · have fz0 := h0 (by simp [hdep])
          have fz1 := h1 (by simp [hdep])
          unfold OpSteps
          simp [go_sem, evS, fz0, fz1]
          refine (HAtP.out W (below_nx HBr.out hT)).mono ?_
          rintro e W' ⟨rfl, hb⟩
          refine ⟨_, rfl, ?_⟩
          exact ⟨fun h => by simpa [sput] using h0 (by simpa [did] using h), fun h => by simpa [sput] using h1 (by simpa [did] using h), fun _ => by simp [sput], fun h => by simpa [sput] using h3 (by simpa [did] using h), fun h => by simpa [sput] using h4 (by simpa [did] using h), fun h => by simpa [sput] using h5 (by simpa [did] using h), fun h => by simpa [sput] using h6 (by simpa [did] using h), fun h => by simpa [sput] using h7 (by simpa [did] using h), fun h => by simpa [sput] using h8 (by simpa [did] using h), fun h => by simpa [sput] using h9 (by simpa [did] using h), below_nx hT hb⟩
        · unfold OpSteps
          obtain ⟨p0, p1, p2⟩ := cells3 (HYr.out.below hT HYr.out.lt)
          simp [go_sem, evS, f3, p0, p1, p2]
          exact ⟨fun h => by simpa [sput] using h0 (by simpa [did] using h), fun h => by simpa [sput] using h1 (by simpa [did] using h), fun h => by simpa [sput] using h2 (by simpa [did] using h), fun _ => by simp [sput], fun h => by simpa [sput] using h4 (by simpa [did] using h), fun h => by simpa [sput] using h5 (by simpa [did] using h), fun h => by simpa [sput] using h6 (by simpa [did] using h), fun h => by simpa [sput] using h7 (by simpa [did] using h), fun h => by simpa [sput] using h8 (by simpa [did] using h), fun h => by simpa [sput] using h9 (by simpa [did] using h), hT⟩
        · unfold OpSteps
          simp [go_sem, evS, f11]
          exact ⟨fun h => by simpa [sput] using h0 (by simpa [did] using h), fun h => by simpa [sput] using h1 (by simpa [did] using h), fun h => by simpa [sput] using h2 (by simpa [did] using h), fun h => by simpa [sput] using h3 (by simpa [did] using h), fun _ => by simp [sput], fun h => by simpa [sput] using h5 (by simpa [did] using h), fun h => by simpa [sput] using h6 (by simpa [did] using h), fun h => by simpa [sput] using h7 (by simpa [did] using h), fun h => by simpa [sput] using h8 (by simpa [did] using h), fun h => by simpa [sput] using h9 (by simpa [did] using h), hT⟩
        · have fz3 := h3 (by simp [hdep])
          have fz4 := h4 (by simp [hdep])
          unfold OpSteps
          simp [go_sem, evS, fz3, fz4]
          refine (HAtP'.out W (below_nx HBr.out hT)).mono ?_
          rintro e W' ⟨rfl, hb⟩
          refine ⟨_, rfl, ?_⟩
          exact ⟨fun h => by simpa [sput] using h0 (by simpa [did] using h), fun h => by simpa [sput] using h1 (by simpa [did] using h), fun h => by simpa [sput] using h2 (by simpa [did] using h), fun h => by simpa [sput] using h3 (by simpa [did] using h), fun h => by simpa [sput] using h4 (by simpa [did] using h), fun _ => by simp [sput], fun h => by simpa [sput] using h6 (by simpa [did] using h), fun h => by simpa [sput] using h7 (by simpa [did] using h), fun h => by simpa [sput] using h8 (by simpa [did] using h), fun h => by simpa [sput] using h9 (by simpa [did] using h), below_nx hT hb⟩
        · have fz2 := h2 (by simp [hdep])
          have fz5 := h5 (by simp [hdep])
          unfold OpSteps
          simp [go_sem, evS, fz2, fz5, hU, wU]
          exact ⟨fun h => by simpa [sput] using h0 (by simpa [did] using h), fun h => by simpa [sput] using h1 (by simpa [did] using h), fun h => by simpa [sput] using h2 (by simpa [did] using h), fun h => by simpa [sput] using h3 (by simpa [did] using h), fun h => by simpa [sput] using h4 (by simpa [did] using h), fun h => by simpa [sput] using h5 (by simpa [did] using h), fun _ => by simp [sput], fun h => by simpa [sput] using h7 (by simpa [did] using h), fun h => by simpa [sput] using h8 (by simpa [did] using h), fun h => by simpa [sput] using h9 (by simpa [did] using h), hT⟩
        · unfold OpSteps
          simp [go_sem, evS, f8]
          exact ⟨fun h => by simpa [sput] using h0 (by simpa [did] using h), fun h => by simpa [sput] using h1 (by simpa [did] using h), fun h => by simpa [sput] using h2 (by simpa [did] using h), fun h => by simpa [sput] using h3 (by simpa [did] using h), fun h => by simpa [sput] using h4 (by simpa [did] using h), fun h => by simpa [sput] using h5 (by simpa [did] using h), fun h => by simpa [sput] using h6 (by simpa [did] using h), fun _ => by simp [sput], fun h => by simpa [sput] using h8 (by simpa [did] using h), fun h => by simpa [sput] using h9 (by simpa [did] using h), hT⟩
        · have fz6 := h6 (by simp [hdep])
          have fz7 := h7 (by simp [hdep])
          unfold OpSteps
          simp [go_sem, evS, fz6, fz7, hV, wV]
          exact ⟨fun h => by simpa [sput] using h0 (by simpa [did] using h), fun h => by simpa [sput] using h1 (by simpa [did] using h), fun h => by simpa [sput] using h2 (by simpa [did] using h), fun h => by simpa [sput] using h3 (by simpa [did] using h), fun h => by simpa [sput] using h4 (by simpa [did] using h), fun h => by simpa [sput] using h5 (by simpa [did] using h), fun h => by simpa [sput] using h6 (by simpa [did] using h), fun h => by simpa [sput] using h7 (by simpa [did] using h), fun _ => by simp [sput], fun h => by simpa [sput] using h9 (by simpa [did] using h), hT⟩
        · have fz8 := h8 (by simp [hdep])
          unfold OpSteps
          simp [go_sem, evS, fz8]
          exact ⟨fun h => by simpa [sput] using h0 (by simpa [did] using h), fun h => by simpa [sput] using h1 (by simpa [did] using h), fun h => by simpa [sput] using h2 (by simpa [did] using h), fun h => by simpa [sput] using h3 (by simpa [did] using h), fun h => by simpa [sput] using h4 (by simpa [did] using h), fun h => by simpa [sput] using h5 (by simpa [did] using h), fun h => by simpa [sput] using h6 (by simpa [did] using h), fun h => by simpa [sput] using h7 (by simpa [did] using h), fun h => by simpa [sput] using h8 (by simpa [did] using h), fun _ => by simp [sput], hT⟩
      intro d s W hJ hd
      obtain ⟨h0, h1, h2, h3, h4, h5, h6, h7, h8, h9, hT⟩ := hJ
      have hs12 := h9 (hd 9 (by decide))
      have hb : Below wr.heap.size wr W := hT
      clear h0 h1 h2 h3 h4 h5 h6 h7 h8 h9 hT hd
      simp [setAll, hs12]
      clear hs12
      generalize s 83 = s83
      generalize s 84 = s84
      generalize s 85 = s85
      generalize s 86 = s86
      generalize s 87 = s87
      generalize s 88 = s88
      generalize s 89 = s89
      generalize s 90 = s90
      generalize s 91 = s91
      have HX2 := Lib.hid (HXr.out.next hb)
      have HY2 := Lib.hid (HYr.out.next hb)
      have HR2 := Lib.hid (HRr.out.next hb)
      have HB2 := Lib.hid (below_nx HBr.out hb)
      have HZ2 := Lib.hid (Nat.le_trans HZr.out hb.size)
      have HO2 := Lib.hid (ownsRow_below HOr.out hb)
      clear hb a0 a1 a2 b0 b1 b2
      generalize W = w2 at *
      clear hU hV wU wV hlt2
      by_cases hbw : y + b ≤ x
      · obtain ⟨z, hz, hVz, hz6, ht⟩ := borrow_facts0 HUV.out hbw HB01.out.2.1
        have HVz := Lib.hid hVz
        have HStep := Lib.hid (show (Ls ++ [z]).length = q + 1 ∧ Digs 65536 (Ls ++ [z]) ∧ ofd 65536 (Ls ++ [z]) + dsum l' E' fr (q + 1) = dsum l E fr (q + 1) + 65536 ^ (q + 1) * 0 from by
          refine ⟨by simp [HL.out.1], Digs.append HL.out.2.1 (Digs.cons hz6 (Digs.nil _)), ?_⟩
          have := borrow_none (x := x) (y := y) HL.out.1 HL.out.2.2 hbw
          rw [hz] at this
          rw [dsum, dsum, HPP.out, HXY.out.1, HXY.out.2]
          exact this)
        clear hz hbw hVz hz6
        have HOaa := Lib.hid (HO2.out.alloc (.cells #[.int .i64 V] 3))
        go_wp2_with (at_builtin; refine wpList_append_own _ rfl _ _ 32 rfl (w.heap.size + 1 + 1 + 1) 3 i0 (.int .i64 0) 1 8 Try.underlying32 hi hz0 hz1 hz2 rfl (by decide) _ q (ints Ls) rfl HOaa.out ⟨w2.heap.size, 0, none⟩ 1 1 [.int .i64 V] rfl rfl ?c1a (by intro u hu; simp at hu; subst hu; rfl) ?c3a ?c4a ?c5a ?_)
        case c1a => exact cell_one_new _ _ _
        case c3a => unfold maxLen; have := HNb.out; omega
        case c4a => have := HNb.out; omega
        case c5a => (try simp); have := HZ2.out; omega
        intro v' w3 hown' hgrow _
        have hal := (Below.refl w2.heap.size w2).alloc (Nat.le_refl _) (.cells #[.int .i64 V] 3)
        have hgx : ∀ k, k < w.heap.size + 1 + 1 + 1 → w3.heap[k]? = w2.heap[k]? := fun k hk => (hgrow.block k (by simp; have := HZ2.out; omega) (fun e => by have := (HOaa.out.lt k e.symm).1; omega)).trans (hal.block k (by have := HZ2.out; omega))
        have HX3 := Lib.hid (show Blk w3 w.heap.size 34 _ from (hgx _ (by omega)).trans HX2.out)
        have HY3 := Lib.hid (show Blk w3 (w.heap.size + 1) 34 _ from (hgx _ (by omega)).trans HY2.out)
        have HR3 := Lib.hid (show Blk w3 (w.heap.size + 1 + 1) 34 _ from (hgx _ (by omega)).trans HR2.out)
        have HB3 := Lib.hid ((below_nx HB2.out hal).grown hgrow (by simp; have := HZ2.out; omega) (fun k hk => by have := (HOaa.out.lt k hk).1; omega))
        have HZ3 := Lib.hid (show w.heap.size + 1 + 1 + 1 ≤ w3.heap.size by have := hgrow.size; have := HZ2.out; simp at *; omega)
        have HO3 := Lib.hid (show w3.ownsRow (w.heap.size + 1 + 1 + 1) 3 1 v' (q + 1) (ints (Ls ++ [z])) by rw [ints_snoc, ← HVz.out]; exact hown')
        clear hown' hgrow hal hgx
        go_wp2_with fail
        go_roundw
        case rel => exact ⟨q + 1, 0, Ls ++ [z], by have := HLT.out.1; omega, by omega, rfl, congrArg (Value.int .i64) (by have := HPP.out; rw [hp1]; omega), HStep, HO3.out, HB3.out, HX3.out, HY3.out, HR3.out, HZ3.out⟩
        case measure => have := HPP.out; have := HLT.out.1; have := HNn.out; rw [hp1]; simp [intOf]; omega
      · obtain ⟨z, hz, hVz, wz, hz6, ht, hbw1, hbw2⟩ := borrow_facts1 HUV.out hbw HB01.out.2.1 HB01.out.2.2 HB01.out.1
        have HStep := Lib.hid (show (Ls ++ [z]).length = q + 1 ∧ Digs 65536 (Ls ++ [z]) ∧ ofd 65536 (Ls ++ [z]) + dsum l' E' fr (q + 1) = dsum l E fr (q + 1) + 65536 ^ (q + 1) * 1 from by
          refine ⟨by simp [HL.out.1], Digs.append HL.out.2.1 (Digs.cons hz6 (Digs.nil _)), ?_⟩
          have := borrow_one (x := x) (y := y) HL.out.1 HL.out.2.2 hbw1 hbw2
          rw [hz] at this
          rw [dsum, dsum, HPP.out, HXY.out.1, HXY.out.2]
          exact this)
        clear hz hbw hbw1 hbw2 hz6
        have HOab := Lib.hid (HO2.out.alloc (.cells #[.int .i64 (z : Int)] 3))
        go_wp2_with (at_builtin; refine wpList_append_own _ rfl _ _ 32 rfl (w.heap.size + 1 + 1 + 1) 3 i0 (.int .i64 0) 1 8 Try.underlying32 hi hz0 hz1 hz2 rfl (by decide) _ q (ints Ls) rfl HOab.out ⟨w2.heap.size, 0, none⟩ 1 1 [.int .i64 (z : Int)] rfl rfl ?c1b (by intro u hu; simp at hu; subst hu; rfl) ?c3b ?c4b ?c5b ?_)
        case c1b => exact cell_one_new _ _ _
        case c3b => unfold maxLen; have := HNb.out; omega
        case c4b => have := HNb.out; omega
        case c5b => (try simp); have := HZ2.out; omega
        intro v' w3 hown' hgrow _
        have hal := (Below.refl w2.heap.size w2).alloc (Nat.le_refl _) (.cells #[.int .i64 (z : Int)] 3)
        have hgx : ∀ k, k < w.heap.size + 1 + 1 + 1 → w3.heap[k]? = w2.heap[k]? := fun k hk => (hgrow.block k (by simp; have := HZ2.out; omega) (fun e => by have := (HOab.out.lt k e.symm).1; omega)).trans (hal.block k (by have := HZ2.out; omega))
        have HX3 := Lib.hid (show Blk w3 w.heap.size 34 _ from (hgx _ (by omega)).trans HX2.out)
        have HY3 := Lib.hid (show Blk w3 (w.heap.size + 1) 34 _ from (hgx _ (by omega)).trans HY2.out)
        have HR3 := Lib.hid (show Blk w3 (w.heap.size + 1 + 1) 34 _ from (hgx _ (by omega)).trans HR2.out)
        have HB3 := Lib.hid ((below_nx HB2.out hal).grown hgrow (by simp; have := HZ2.out; omega) (fun k hk => by have := (HOab.out.lt k hk).1; omega))
        have HZ3 := Lib.hid (show w.heap.size + 1 + 1 + 1 ≤ w3.heap.size by have := hgrow.size; have := HZ2.out; simp at *; omega)
        have HO3 := Lib.hid (show w3.ownsRow (w.heap.size + 1 + 1 + 1) 3 1 v' (q + 1) (ints (Ls ++ [z])) by rw [ints_snoc]; exact hown')
        clear hown' hgrow hal hgx
        go_wp2_with fail
        go_roundw
        case rel => exact ⟨q + 1, 1, Ls ++ [z], by have := HLT.out.1; omega, by omega, rfl, congrArg (Value.int .i64) (by have := HPP.out; rw [hp1]; omega), HStep, HO3.out, HB3.out, HX3.out, HY3.out, HR3.out, HZ3.out⟩
        case measure => have := HPP.out; have := HLT.out.1; have := HNn.out; rw [hp1]; simp [intOf]; omega
    · obtain rfl : q = N := by omega
      have hlt2 : decide (fr + (q : Int) < tz) = false := by simp; have := HNn.out; omega
      obtain ⟨a0, a1, a2⟩ := cells3 HXr.out
      have HR3 := HRr
      have HB3 := HBr
      have HEnd := Lib.hid (borrow_end HL.out.1 HL.out.2.1 HL.out.2.2 HC.out)
      have hrd := own_rd (n := q) HOr.out HL.out.2.1
      obtain ⟨Am, cm, rfl, hRm, hcm⟩ := hrd
      have HRm := Lib.hid hRm
      have Hcm := Lib.hid hcm
      clear hRm hcm
      go_wp2_with fail
      refine (made_any false Am q cm _ fr _ HRm.out (by have := HNb.out; omega) (by have := HFb.out; omega) Hcm.out).mono ?_
      rintro e w4 ⟨ng4, A4, n4, c4, E4, L4, rfl, hR4, hN4, hd4, hb⟩
      have HR4 := Lib.hid (HR3.out.next hb)
      have f0 := HR4.out.frozen 0
      have f1 := HR4.out.frozen 1
      have f2 := HR4.out.frozen 2
      obtain ⟨r0, r1, r2⟩ := cells3 HR4.out
      have HB4 := Lib.hid (below_nx HB3.out hb)
      have HRd4 := Lib.hid hR4
      have HN4 := Lib.hid hN4
      have HD4 := Lib.hid (show rdy ng4 L4 E4 = rdy false l E + rdy true l' E' from hd4.trans (by rw [HV1.out, HV2.out, dy_add, rdy_sgd, HEnd.out]; congr 1; exact (sgd_sub false HC.out).symm))
      clear hb hR4 hN4 hd4 a0 a1 a2
      go_wp2_with fail
      obtain ⟨q0, q1, q2⟩ := cells3 (Blk.store3 HR4.out (.bool ng4) (.slice A4 n4 c4) (.int .i64 E4))
      exact bodyPost_ret (v := .agg #[.bool ng4, .slice A4 n4 c4, .int .i64 E4]) (by simp [results, Try.results17, go_sem, q0, q1, q2]) rfl (retR_done HR4.out HRd4.out HN4.out HD4.out HB4.out (by omega))

set_option maxRecDepth 100000 in
set_option maxHeartbeats 8000000 in
theorem radd_n2 (A : Option Addr) (n c : Nat) (l : List Nat) (E : Int) (A' : Option Addr) (n' c' : Nat) (l' : List Nat) (E' : Int) (w : World) (h : Rd w A n c l) (h' : Rd w A' n' c' l') (hn : n ≤ 536870912) (hn' : n' ≤ 536870912) (hE : E.natAbs ≤ 1073741824) (hE' : E'.natAbs ≤ 1073741824) (h0 : n ≠ 0) (h1 : n' ≠ 0) (fr tz : Int) (N : Nat) (hf : endsF n E n' E' = (fr, tz)) (hN : fr + N = tz) (hC : dsum l' E' fr N ≤ dsum l E fr N) :
    Calls Try.prog 17 #[.agg #[.bool true, .slice A n c, .int .i64 E], .agg #[.bool false, .slice A' n' c', .int .i64 E']] w (RetR (rdy true l E + rdy false l' E') w) := by
  have hfb := ends_bd hf hn hn' hE hE'
  have hends := ends_ok hf
  have HEn := Lib.hid (fun W => rends_any true A n c E false A' n' c' E' W (by omega) (by omega) (by omega) (by omega) fr tz hf)
  have HAt := Lib.hid (fun W (hb : Below w.heap.size w W) p (hp : p.natAbs ≤ 1099511627776) => rdat_any true A n c l E p W (h.below hb) (by omega) (by omega) hp)
  have HAt' := Lib.hid (fun W (hb : Below w.heap.size w W) p (hp : p.natAbs ≤ 1099511627776) => rdat_any false A' n' c' l' E' p W (h'.below hb) (by omega) (by omega) hp)
  have HS := Lib.hid (And.intro h.2.2.2.1 h'.2.2.2.1)
  have Hh := Lib.hid (And.intro h h')
  have HV1 := Lib.hid (show rdy true l E = dy (sgd true (dsum l E fr N)) (16 * fr) from dsum_val (by rw [← h.1]; exact hends.1) hN true)
  have HV2 := Lib.hid (show rdy false l' E' = dy (sgd false (dsum l' E' fr N)) (16 * fr) from dsum_val (by rw [← h'.1]; exact hends.2.1) hN false)
  have HFb := Lib.hid hfb
  have HNn := Lib.hid hN
  have HNb := Lib.hid (show N ≤ 4294967296 by omega)
  have HX := Lib.hid (((Blk.new w 34 #[.bool true, .slice A n c, .int .i64 E]).alloc (.cells #[.bool false, .slice A' n' c', .int .i64 E'] 34)).alloc (.cells #[.bool false, .slice none 0 0, .int .i64 0] 34))
  have HY := Lib.hid ((Blk.new_ (w.alloc (.cells #[.bool true, .slice A n c, .int .i64 E] 34)) 34 #[.bool false, .slice A' n' c', .int .i64 E'] (w.heap.size + 1) (by simp)).alloc (.cells #[.bool false, .slice none 0 0, .int .i64 0] 34))
  have HR := Lib.hid (Blk.new_ ((w.alloc (.cells #[.bool true, .slice A n c, .int .i64 E] 34)).alloc (.cells #[.bool false, .slice A' n' c', .int .i64 E'] 34)) 34 #[.bool false, .slice none 0 0, .int .i64 0] (w.heap.size + 1 + 1) (by simp))
  have HBl := Lib.hid ((((Below.refl w.heap.size w).alloc (Nat.le_refl _) (.cells #[.bool true, .slice A n c, .int .i64 E] 34)).alloc (by simp) (.cells #[.bool false, .slice A' n' c', .int .i64 E'] 34)).alloc (by simp; omega) (.cells #[.bool false, .slice none 0 0, .int .i64 0] 34))
  obtain ⟨i0, hi, hz0, hz1, hz2⟩ := info_parts info_i64
  have HSz := Lib.hid (fun W (hb : Below w.heap.size w W) r hr => rsize_any true A n c l E false A' n' c' l' E' W (h.below hb) (h'.below hb) (by omega) (by omega) (by omega) (by omega) fr tz N hf hN r hr)
  have hn0 : ((n : Int) == 0) = false := by simp; omega
  have hn1 : ((n' : Int) == 0) = false := by simp; omega
  have HC := Lib.hid hC
  obtain ⟨r, hr⟩ : ∃ r : Int, r = if dsum l E fr N < dsum l' E' fr N then -1 else if dsum l E fr N = dsum l' E' fr N then 0 else 1 := ⟨_, rfl⟩
  have HRr0 := Lib.hid hr
  have hr0 : decide (r < 0) = false := by
    rw [if_neg (by omega)] at hr
    split at hr <;> (subst hr; rfl)
  clear h h' hn hn' hE hE' hf hfb hends hN h0 h1 hC hr
  go_enter Try.func17, Try.ntmps17
  obtain ⟨a0, a1, a2⟩ := cells3 HX.out
  obtain ⟨b0, b1, b2⟩ := cells3 HY.out
  go_wp2_with fail
  refine (HEn.out _).mono ?_
  rintro e w1 ⟨rfl, hb⟩
  have HX1 := Lib.hid (HX.out.next hb)
  have HY1 := Lib.hid (HY.out.next hb)
  have HR1 := Lib.hid (HR.out.next hb)
  have HB1 := Lib.hid (below_nx HBl.out hb)
  have HZ1 := Lib.hid (show w.heap.size + 1 + 1 + 1 ≤ w1.heap.size by have := HR1.out.lt; omega)
  clear hb a0 a1 a2 b0 b1 b2
  obtain ⟨a0, a1, a2⟩ := cells3 HX1.out
  obtain ⟨b0, b1, b2⟩ := cells3 HY1.out
  go_wp2_with fail
  clear a0 a1 a2 b0 b1 b2
  refine (HSz.out _ HB1.out _ HRr0.out).mono ?_
  rintro e w2 ⟨rfl, hb⟩
  have HX2 := Lib.hid (HX1.out.next hb)
  have HY2 := Lib.hid (HY1.out.next hb)
  have HR2 := Lib.hid (HR1.out.next hb)
  have HB2 := Lib.hid (below_nx HB1.out hb)
  have HZ2 := Lib.hid (Nat.le_trans HZ1.out hb.size)
  clear hb
  obtain ⟨a0, a1, a2⟩ := cells3 HX2.out
  obtain ⟨b0, b1, b2⟩ := cells3 HY2.out
  go_wp2_with fail
  clear a0 a1 a2 b0 b1 b2
  go_loopw [7, 8, 11] (fun L cc p wr => ∃ (q b : Nat) (Ls : List Nat), q ≤ N ∧ b ≤ 1 ∧ cc = .int .i64 (b : Int) ∧ p = .int .i64 (fr + (q : Int)) ∧ Hid (Ls.length = q ∧ Digs 65536 Ls ∧ ofd 65536 Ls + dsum l' E' fr q = dsum l E fr q + 65536 ^ q * b) ∧ wr.ownsRow (w.heap.size + 1 + 1 + 1) 3 1 L q (ints Ls) ∧ Below w.heap.size w wr ∧ Blk wr w.heap.size 34 #[.bool true, .slice A n c, .int .i64 E] ∧ Blk wr (w.heap.size + 1) 34 #[.bool false, .slice A' n' c', .int .i64 E'] ∧ Blk wr (w.heap.size + 1 + 1) 34 #[.bool false, .slice none 0 0, .int .i64 0] ∧ w.heap.size + 1 + 1 + 1 ≤ wr.heap.size) (fun _ _ p _ => (tz - intOf p).toNat)
  case atStart => exact ⟨0, 0, [], Nat.zero_le _, by omega, rfl, by simp, Lib.hid ⟨rfl, Digs.nil _, by simp [ofd, dsum]⟩, World.ownsRow_nil _ _ _ _, HB2.out, HX2.out, HY2.out, HR2.out, HZ2.out⟩
  case round =>
    clear HX1 HY1 HR1 HB1 HZ1 HX2 HY2 HR2 HB2 HZ2 HSz
    obtain ⟨q, b, Ls, hq, hcr, rfl, rfl, HL, hO, hB, hX, hY, hR, hZ⟩ := hrel
    have HOr := Lib.hid hO
    have HBr := Lib.hid hB
    have HXr := Lib.hid hX
    have HYr := Lib.hid hY
    have HRr := Lib.hid hR
    have HZr := Lib.hid hZ
    clear hO hB hX hY hR hZ
    by_cases hlt : q < N
    · have hq1 : q + 1 ≤ 4294967296 := by have := HNb.out; omega
      obtain ⟨P, hP⟩ : ∃ P, fr + (q : Int) = P := ⟨_, rfl⟩
      have hp1 : wrap64 (P + 1) = P + 1 := wrap64_in (by have := HFb.out; have := HNn.out; omega)
      have hlt2 : decide (P < tz) = true := by simp; have := HNn.out; omega
      have HPb := Lib.hid (show P.natAbs ≤ 1099511627776 by have := HFb.out; have := HNn.out; omega)
      have HPP := Lib.hid hP
      rw [hP]
      obtain ⟨x, hx⟩ : ∃ x, dat l E P = x := ⟨_, rfl⟩
      obtain ⟨y, hy⟩ : ∃ y, dat l' E' P = y := ⟨_, rfl⟩
      have hx6 : x < 65536 := by rw [← hx]; exact dat_lt HS.out.1 _ _
      have hy6 : y < 65536 := by rw [← hy]; exact dat_lt HS.out.2 _ _
      have HAtP := Lib.hid (fun W (hb : Below w.heap.size w W) => HAt.out W hb P HPb.out)
      have HAtP' := Lib.hid (fun W (hb : Below w.heap.size w W) => HAt'.out W hb P HPb.out)
      rw [hx] at HAtP
      rw [hy] at HAtP'
      have HXY := Lib.hid (And.intro hx hy)
      clear hx hy hP
      obtain ⟨a0, a1, a2⟩ := cells3 HXr.out
      obtain ⟨b0, b1, b2⟩ := cells3 HYr.out
      obtain ⟨U, hU⟩ : ∃ U : Int, (x : Int) - (y : Int) = U := ⟨_, rfl⟩
      obtain ⟨V, hV⟩ : ∃ V : Int, U - (b : Int) = V := ⟨_, rfl⟩
      have wU : IntKind.i64.wrap U = U := iwrap_in (by omega)
      have wV : IntKind.i64.wrap V = V := iwrap_in (by omega)
      have HUV := Lib.hid (show (x : Int) - (y : Int) - (b : Int) = V by omega)
      have HLT := Lib.hid (And.intro hlt hq)
      have HB01 := Lib.hid (And.intro hcr (And.intro hx6 hy6))
      clear hlt hcr hx6 hy6
      go_wp2_with fail
      refine wp_region_inv [83, 84, 85, 86, 87, 88, 89, 90, 91, 12] (fun d s W => (d 0 = true → s 83 = .agg #[.bool true, .slice A n c, .int .i64 E]) ∧ (d 1 = true → s 84 = .int .i64 P) ∧ (d 2 = true → s 85 = .int .i64 (x : Int)) ∧ (d 3 = true → s 86 = .agg #[.bool false, .slice A' n' c', .int .i64 E']) ∧ (d 4 = true → s 87 = .int .i64 P) ∧ (d 5 = true → s 88 = .int .i64 (y : Int)) ∧ (d 6 = true → s 89 = .int .i64 U) ∧ (d 7 = true → s 90 = .int .i64 (b : Int)) ∧ (d 8 = true → s 91 = .int .i64 V) ∧ (d 9 = true → s 12 = .int .i64 V) ∧ Below wr.heap.size wr W)
        rfl (by kernel_rfl) ?_ ?_ ?_
      · exact ⟨by simp, by simp, by simp, by simp, by simp, by simp, by simp, by simp, by simp, by simp, (Below.refl _ _).drew⟩
      · refine ⟨?_, ?_, ?_, ?_, ?_, ?_, ?_, ?_, ?_, ?_, trivial⟩
        all_goals
          intro d s W hJ hfr hd hdep
          simp only [List.mem_cons, forall_eq_or_imp, List.not_mem_nil, false_implies, implies_true, and_true, Region.binds] at hdep
          have f2 := hfr 2 (by decide)
          have f3 := hfr 3 (by decide)
          have f8 := hfr 8 (by decide)
          have f11 := hfr 11 (by decide)
          simp at f2 f3 f8 f11 hdep
          obtain ⟨h0, h1, h2, h3, h4, h5, h6, h7, h8, h9, hT⟩ := hJ
        · unfold OpSteps
          obtain ⟨p0, p1, p2⟩ := cells3 (HXr.out.below hT HXr.out.lt)
          simp [go_sem, evS, f2, p0, p1, p2]
          exact ⟨fun _ => by simp [sput], fun h => by simpa [sput] using h1 (by simpa [did] using h), fun h => by simpa [sput] using h2 (by simpa [did] using h), fun h => by simpa [sput] using h3 (by simpa [did] using h), fun h => by simpa [sput] using h4 (by simpa [did] using h), fun h => by simpa [sput] using h5 (by simpa [did] using h), fun h => by simpa [sput] using h6 (by simpa [did] using h), fun h => by simpa [sput] using h7 (by simpa [did] using h), fun h => by simpa [sput] using h8 (by simpa [did] using h), fun h => by simpa [sput] using h9 (by simpa [did] using h), hT⟩
        · unfold OpSteps
          simp [go_sem, evS, f11]
          exact ⟨fun h => by simpa [sput] using h0 (by simpa [did] using h), fun _ => by simp [sput], fun h => by simpa [sput] using h2 (by simpa [did] using h), fun h => by simpa [sput] using h3 (by simpa [did] using h), fun h => by simpa [sput] using h4 (by simpa [did] using h), fun h => by simpa [sput] using h5 (by simpa [did] using h), fun h => by simpa [sput] using h6 (by simpa [did] using h), fun h => by simpa [sput] using h7 (by simpa [did] using h), fun h => by simpa [sput] using h8 (by simpa [did] using h), fun h => by simpa [sput] using h9 (by simpa [did] using h), hT⟩
        · have fz0 := h0 (by simp [hdep])
          have fz1 := h1 (by simp [hdep])
          unfold OpSteps
          simp [go_sem, evS, fz0, fz1]
          refine (HAtP.out W (below_nx HBr.out hT)).mono ?_
          rintro e W' ⟨rfl, hb⟩
          refine ⟨_, rfl, ?_⟩
          exact ⟨fun h => by simpa [sput] using h0 (by simpa [did] using h), fun h => by simpa [sput] using h1 (by simpa [did] using h), fun _ => by simp [sput], fun h => by simpa [sput] using h3 (by simpa [did] using h), fun h => by simpa [sput] using h4 (by simpa [did] using h), fun h => by simpa [sput] using h5 (by simpa [did] using h), fun h => by simpa [sput] using h6 (by simpa [did] using h), fun h => by simpa [sput] using h7 (by simpa [did] using h), fun h => by simpa [sput] using h8 (by simpa [did] using h), fun h => by simpa [sput] using h9 (by simpa [did] using h), below_nx hT hb⟩
        · unfold OpSteps
          obtain ⟨p0, p1, p2⟩ := cells3 (HYr.out.below hT HYr.out.lt)
          simp [go_sem, evS, f3, p0, p1, p2]
          exact ⟨fun h => by simpa [sput] using h0 (by simpa [did] using h), fun h => by simpa [sput] using h1 (by simpa [did] using h), fun h => by simpa [sput] using h2 (by simpa [did] using h), fun _ => by simp [sput], fun h => by simpa [sput] using h4 (by simpa [did] using h), fun h => by simpa [sput] using h5 (by simpa [did] using h), fun h => by simpa [sput] using h6 (by simpa [did] using h), fun h => by simpa [sput] using h7 (by simpa [did] using h), fun h => by simpa [sput] using h8 (by simpa [did] using h), fun h => by simpa [sput] using h9 (by simpa [did] using h), hT⟩
        · unfold OpSteps
          simp [go_sem, evS, f11]
          exact ⟨fun h => by simpa [sput] using h0 (by simpa [did] using h), fun h => by simpa [sput] using h1 (by simpa [did] using h), fun h => by simpa [sput] using h2 (by simpa [did] using h), fun h => by simpa [sput] using h3 (by simpa [did] using h), fun _ => by simp [sput], fun h => by simpa [sput] using h5 (by simpa [did] using h), fun h => by simpa [sput] using h6 (by simpa [did] using h), fun h => by simpa [sput] using h7 (by simpa [did] using h), fun h => by simpa [sput] using h8 (by simpa [did] using h), fun h => by simpa [sput] using h9 (by simpa [did] using h), hT⟩
        · have fz3 := h3 (by simp [hdep])
          have fz4 := h4 (by simp [hdep])
          unfold OpSteps
          simp [go_sem, evS, fz3, fz4]
          refine (HAtP'.out W (below_nx HBr.out hT)).mono ?_
          rintro e W' ⟨rfl, hb⟩
          refine ⟨_, rfl, ?_⟩
          exact ⟨fun h => by simpa [sput] using h0 (by simpa [did] using h), fun h => by simpa [sput] using h1 (by simpa [did] using h), fun h => by simpa [sput] using h2 (by simpa [did] using h), fun h => by simpa [sput] using h3 (by simpa [did] using h), fun h => by simpa [sput] using h4 (by simpa [did] using h), fun _ => by simp [sput], fun h => by simpa [sput] using h6 (by simpa [did] using h), fun h => by simpa [sput] using h7 (by simpa [did] using h), fun h => by simpa [sput] using h8 (by simpa [did] using h), fun h => by simpa [sput] using h9 (by simpa [did] using h), below_nx hT hb⟩
        · have fz2 := h2 (by simp [hdep])
          have fz5 := h5 (by simp [hdep])
          unfold OpSteps
          simp [go_sem, evS, fz2, fz5, hU, wU]
          exact ⟨fun h => by simpa [sput] using h0 (by simpa [did] using h), fun h => by simpa [sput] using h1 (by simpa [did] using h), fun h => by simpa [sput] using h2 (by simpa [did] using h), fun h => by simpa [sput] using h3 (by simpa [did] using h), fun h => by simpa [sput] using h4 (by simpa [did] using h), fun h => by simpa [sput] using h5 (by simpa [did] using h), fun _ => by simp [sput], fun h => by simpa [sput] using h7 (by simpa [did] using h), fun h => by simpa [sput] using h8 (by simpa [did] using h), fun h => by simpa [sput] using h9 (by simpa [did] using h), hT⟩
        · unfold OpSteps
          simp [go_sem, evS, f8]
          exact ⟨fun h => by simpa [sput] using h0 (by simpa [did] using h), fun h => by simpa [sput] using h1 (by simpa [did] using h), fun h => by simpa [sput] using h2 (by simpa [did] using h), fun h => by simpa [sput] using h3 (by simpa [did] using h), fun h => by simpa [sput] using h4 (by simpa [did] using h), fun h => by simpa [sput] using h5 (by simpa [did] using h), fun h => by simpa [sput] using h6 (by simpa [did] using h), fun _ => by simp [sput], fun h => by simpa [sput] using h8 (by simpa [did] using h), fun h => by simpa [sput] using h9 (by simpa [did] using h), hT⟩
        · have fz6 := h6 (by simp [hdep])
          have fz7 := h7 (by simp [hdep])
          unfold OpSteps
          simp [go_sem, evS, fz6, fz7, hV, wV]
          exact ⟨fun h => by simpa [sput] using h0 (by simpa [did] using h), fun h => by simpa [sput] using h1 (by simpa [did] using h), fun h => by simpa [sput] using h2 (by simpa [did] using h), fun h => by simpa [sput] using h3 (by simpa [did] using h), fun h => by simpa [sput] using h4 (by simpa [did] using h), fun h => by simpa [sput] using h5 (by simpa [did] using h), fun h => by simpa [sput] using h6 (by simpa [did] using h), fun h => by simpa [sput] using h7 (by simpa [did] using h), fun _ => by simp [sput], fun h => by simpa [sput] using h9 (by simpa [did] using h), hT⟩
        · have fz8 := h8 (by simp [hdep])
          unfold OpSteps
          simp [go_sem, evS, fz8]
          exact ⟨fun h => by simpa [sput] using h0 (by simpa [did] using h), fun h => by simpa [sput] using h1 (by simpa [did] using h), fun h => by simpa [sput] using h2 (by simpa [did] using h), fun h => by simpa [sput] using h3 (by simpa [did] using h), fun h => by simpa [sput] using h4 (by simpa [did] using h), fun h => by simpa [sput] using h5 (by simpa [did] using h), fun h => by simpa [sput] using h6 (by simpa [did] using h), fun h => by simpa [sput] using h7 (by simpa [did] using h), fun h => by simpa [sput] using h8 (by simpa [did] using h), fun _ => by simp [sput], hT⟩
      intro d s W hJ hd
      obtain ⟨h0, h1, h2, h3, h4, h5, h6, h7, h8, h9, hT⟩ := hJ
      have hs12 := h9 (hd 9 (by decide))
      have hb : Below wr.heap.size wr W := hT
      clear h0 h1 h2 h3 h4 h5 h6 h7 h8 h9 hT hd
      simp [setAll, hs12]
      clear hs12
      generalize s 83 = s83
      generalize s 84 = s84
      generalize s 85 = s85
      generalize s 86 = s86
      generalize s 87 = s87
      generalize s 88 = s88
      generalize s 89 = s89
      generalize s 90 = s90
      generalize s 91 = s91
      have HX2 := Lib.hid (HXr.out.next hb)
      have HY2 := Lib.hid (HYr.out.next hb)
      have HR2 := Lib.hid (HRr.out.next hb)
      have HB2 := Lib.hid (below_nx HBr.out hb)
      have HZ2 := Lib.hid (Nat.le_trans HZr.out hb.size)
      have HO2 := Lib.hid (ownsRow_below HOr.out hb)
      clear hb a0 a1 a2 b0 b1 b2
      generalize W = w2 at *
      clear hU hV wU wV hlt2
      by_cases hbw : y + b ≤ x
      · obtain ⟨z, hz, hVz, hz6, ht⟩ := borrow_facts0 HUV.out hbw HB01.out.2.1
        have HVz := Lib.hid hVz
        have HStep := Lib.hid (show (Ls ++ [z]).length = q + 1 ∧ Digs 65536 (Ls ++ [z]) ∧ ofd 65536 (Ls ++ [z]) + dsum l' E' fr (q + 1) = dsum l E fr (q + 1) + 65536 ^ (q + 1) * 0 from by
          refine ⟨by simp [HL.out.1], Digs.append HL.out.2.1 (Digs.cons hz6 (Digs.nil _)), ?_⟩
          have := borrow_none (x := x) (y := y) HL.out.1 HL.out.2.2 hbw
          rw [hz] at this
          rw [dsum, dsum, HPP.out, HXY.out.1, HXY.out.2]
          exact this)
        clear hz hbw hVz hz6
        have HOaa := Lib.hid (HO2.out.alloc (.cells #[.int .i64 V] 3))
        go_wp2_with (at_builtin; refine wpList_append_own _ rfl _ _ 32 rfl (w.heap.size + 1 + 1 + 1) 3 i0 (.int .i64 0) 1 8 Try.underlying32 hi hz0 hz1 hz2 rfl (by decide) _ q (ints Ls) rfl HOaa.out ⟨w2.heap.size, 0, none⟩ 1 1 [.int .i64 V] rfl rfl ?c1a (by intro u hu; simp at hu; subst hu; rfl) ?c3a ?c4a ?c5a ?_)
        case c1a => exact cell_one_new _ _ _
        case c3a => unfold maxLen; have := HNb.out; omega
        case c4a => have := HNb.out; omega
        case c5a => (try simp); have := HZ2.out; omega
        intro v' w3 hown' hgrow _
        have hal := (Below.refl w2.heap.size w2).alloc (Nat.le_refl _) (.cells #[.int .i64 V] 3)
        have hgx : ∀ k, k < w.heap.size + 1 + 1 + 1 → w3.heap[k]? = w2.heap[k]? := fun k hk => (hgrow.block k (by simp; have := HZ2.out; omega) (fun e => by have := (HOaa.out.lt k e.symm).1; omega)).trans (hal.block k (by have := HZ2.out; omega))
        have HX3 := Lib.hid (show Blk w3 w.heap.size 34 _ from (hgx _ (by omega)).trans HX2.out)
        have HY3 := Lib.hid (show Blk w3 (w.heap.size + 1) 34 _ from (hgx _ (by omega)).trans HY2.out)
        have HR3 := Lib.hid (show Blk w3 (w.heap.size + 1 + 1) 34 _ from (hgx _ (by omega)).trans HR2.out)
        have HB3 := Lib.hid ((below_nx HB2.out hal).grown hgrow (by simp; have := HZ2.out; omega) (fun k hk => by have := (HOaa.out.lt k hk).1; omega))
        have HZ3 := Lib.hid (show w.heap.size + 1 + 1 + 1 ≤ w3.heap.size by have := hgrow.size; have := HZ2.out; simp at *; omega)
        have HO3 := Lib.hid (show w3.ownsRow (w.heap.size + 1 + 1 + 1) 3 1 v' (q + 1) (ints (Ls ++ [z])) by rw [ints_snoc, ← HVz.out]; exact hown')
        clear hown' hgrow hal hgx
        go_wp2_with fail
        go_roundw
        case rel => exact ⟨q + 1, 0, Ls ++ [z], by have := HLT.out.1; omega, by omega, rfl, congrArg (Value.int .i64) (by have := HPP.out; rw [hp1]; omega), HStep, HO3.out, HB3.out, HX3.out, HY3.out, HR3.out, HZ3.out⟩
        case measure => have := HPP.out; have := HLT.out.1; have := HNn.out; rw [hp1]; simp [intOf]; omega
      · obtain ⟨z, hz, hVz, wz, hz6, ht, hbw1, hbw2⟩ := borrow_facts1 HUV.out hbw HB01.out.2.1 HB01.out.2.2 HB01.out.1
        have HStep := Lib.hid (show (Ls ++ [z]).length = q + 1 ∧ Digs 65536 (Ls ++ [z]) ∧ ofd 65536 (Ls ++ [z]) + dsum l' E' fr (q + 1) = dsum l E fr (q + 1) + 65536 ^ (q + 1) * 1 from by
          refine ⟨by simp [HL.out.1], Digs.append HL.out.2.1 (Digs.cons hz6 (Digs.nil _)), ?_⟩
          have := borrow_one (x := x) (y := y) HL.out.1 HL.out.2.2 hbw1 hbw2
          rw [hz] at this
          rw [dsum, dsum, HPP.out, HXY.out.1, HXY.out.2]
          exact this)
        clear hz hbw hbw1 hbw2 hz6
        have HOab := Lib.hid (HO2.out.alloc (.cells #[.int .i64 (z : Int)] 3))
        go_wp2_with (at_builtin; refine wpList_append_own _ rfl _ _ 32 rfl (w.heap.size + 1 + 1 + 1) 3 i0 (.int .i64 0) 1 8 Try.underlying32 hi hz0 hz1 hz2 rfl (by decide) _ q (ints Ls) rfl HOab.out ⟨w2.heap.size, 0, none⟩ 1 1 [.int .i64 (z : Int)] rfl rfl ?c1b (by intro u hu; simp at hu; subst hu; rfl) ?c3b ?c4b ?c5b ?_)
        case c1b => exact cell_one_new _ _ _
        case c3b => unfold maxLen; have := HNb.out; omega
        case c4b => have := HNb.out; omega
        case c5b => (try simp); have := HZ2.out; omega
        intro v' w3 hown' hgrow _
        have hal := (Below.refl w2.heap.size w2).alloc (Nat.le_refl _) (.cells #[.int .i64 (z : Int)] 3)
        have hgx : ∀ k, k < w.heap.size + 1 + 1 + 1 → w3.heap[k]? = w2.heap[k]? := fun k hk => (hgrow.block k (by simp; have := HZ2.out; omega) (fun e => by have := (HOab.out.lt k e.symm).1; omega)).trans (hal.block k (by have := HZ2.out; omega))
        have HX3 := Lib.hid (show Blk w3 w.heap.size 34 _ from (hgx _ (by omega)).trans HX2.out)
        have HY3 := Lib.hid (show Blk w3 (w.heap.size + 1) 34 _ from (hgx _ (by omega)).trans HY2.out)
        have HR3 := Lib.hid (show Blk w3 (w.heap.size + 1 + 1) 34 _ from (hgx _ (by omega)).trans HR2.out)
        have HB3 := Lib.hid ((below_nx HB2.out hal).grown hgrow (by simp; have := HZ2.out; omega) (fun k hk => by have := (HOab.out.lt k hk).1; omega))
        have HZ3 := Lib.hid (show w.heap.size + 1 + 1 + 1 ≤ w3.heap.size by have := hgrow.size; have := HZ2.out; simp at *; omega)
        have HO3 := Lib.hid (show w3.ownsRow (w.heap.size + 1 + 1 + 1) 3 1 v' (q + 1) (ints (Ls ++ [z])) by rw [ints_snoc]; exact hown')
        clear hown' hgrow hal hgx
        go_wp2_with fail
        go_roundw
        case rel => exact ⟨q + 1, 1, Ls ++ [z], by have := HLT.out.1; omega, by omega, rfl, congrArg (Value.int .i64) (by have := HPP.out; rw [hp1]; omega), HStep, HO3.out, HB3.out, HX3.out, HY3.out, HR3.out, HZ3.out⟩
        case measure => have := HPP.out; have := HLT.out.1; have := HNn.out; rw [hp1]; simp [intOf]; omega
    · obtain rfl : q = N := by omega
      have hlt2 : decide (fr + (q : Int) < tz) = false := by simp; have := HNn.out; omega
      obtain ⟨a0, a1, a2⟩ := cells3 HXr.out
      have HR3 := HRr
      have HB3 := HBr
      have HEnd := Lib.hid (borrow_end HL.out.1 HL.out.2.1 HL.out.2.2 HC.out)
      have hrd := own_rd (n := q) HOr.out HL.out.2.1
      obtain ⟨Am, cm, rfl, hRm, hcm⟩ := hrd
      have HRm := Lib.hid hRm
      have Hcm := Lib.hid hcm
      clear hRm hcm
      go_wp2_with fail
      refine (made_any true Am q cm _ fr _ HRm.out (by have := HNb.out; omega) (by have := HFb.out; omega) Hcm.out).mono ?_
      rintro e w4 ⟨ng4, A4, n4, c4, E4, L4, rfl, hR4, hN4, hd4, hb⟩
      have HR4 := Lib.hid (HR3.out.next hb)
      have f0 := HR4.out.frozen 0
      have f1 := HR4.out.frozen 1
      have f2 := HR4.out.frozen 2
      obtain ⟨r0, r1, r2⟩ := cells3 HR4.out
      have HB4 := Lib.hid (below_nx HB3.out hb)
      have HRd4 := Lib.hid hR4
      have HN4 := Lib.hid hN4
      have HD4 := Lib.hid (show rdy ng4 L4 E4 = rdy true l E + rdy false l' E' from hd4.trans (by rw [HV1.out, HV2.out, dy_add, rdy_sgd, HEnd.out]; congr 1; exact (sgd_sub true HC.out).symm))
      clear hb hR4 hN4 hd4 a0 a1 a2
      go_wp2_with fail
      obtain ⟨q0, q1, q2⟩ := cells3 (Blk.store3 HR4.out (.bool ng4) (.slice A4 n4 c4) (.int .i64 E4))
      exact bodyPost_ret (v := .agg #[.bool ng4, .slice A4 n4 c4, .int .i64 E4]) (by simp [results, Try.results17, go_sem, q0, q1, q2]) rfl (retR_done HR4.out HRd4.out HN4.out HD4.out HB4.out (by omega))

set_option maxRecDepth 100000 in
set_option maxHeartbeats 8000000 in
theorem radd_s1 (A : Option Addr) (n c : Nat) (l : List Nat) (E : Int) (A' : Option Addr) (n' c' : Nat) (l' : List Nat) (E' : Int) (w : World) (h : Rd w A n c l) (h' : Rd w A' n' c' l') (hn : n ≤ 536870912) (hn' : n' ≤ 536870912) (hE : E.natAbs ≤ 1073741824) (hE' : E'.natAbs ≤ 1073741824) (h0 : n ≠ 0) (h1 : n' ≠ 0) (fr tz : Int) (N : Nat) (hf : endsF n E n' E' = (fr, tz)) (hN : fr + N = tz) (hC : dsum l E fr N < dsum l' E' fr N) :
    Calls Try.prog 17 #[.agg #[.bool false, .slice A n c, .int .i64 E], .agg #[.bool true, .slice A' n' c', .int .i64 E']] w (RetR (rdy false l E + rdy true l' E') w) := by
  have hfb := ends_bd hf hn hn' hE hE'
  have hends := ends_ok hf
  have HEn := Lib.hid (fun W => rends_any false A n c E true A' n' c' E' W (by omega) (by omega) (by omega) (by omega) fr tz hf)
  have HAt := Lib.hid (fun W (hb : Below w.heap.size w W) p (hp : p.natAbs ≤ 1099511627776) => rdat_any false A n c l E p W (h.below hb) (by omega) (by omega) hp)
  have HAt' := Lib.hid (fun W (hb : Below w.heap.size w W) p (hp : p.natAbs ≤ 1099511627776) => rdat_any true A' n' c' l' E' p W (h'.below hb) (by omega) (by omega) hp)
  have HS := Lib.hid (And.intro h.2.2.2.1 h'.2.2.2.1)
  have Hh := Lib.hid (And.intro h h')
  have HV1 := Lib.hid (show rdy false l E = dy (sgd false (dsum l E fr N)) (16 * fr) from dsum_val (by rw [← h.1]; exact hends.1) hN false)
  have HV2 := Lib.hid (show rdy true l' E' = dy (sgd true (dsum l' E' fr N)) (16 * fr) from dsum_val (by rw [← h'.1]; exact hends.2.1) hN true)
  have HFb := Lib.hid hfb
  have HNn := Lib.hid hN
  have HNb := Lib.hid (show N ≤ 4294967296 by omega)
  have HX := Lib.hid (((Blk.new w 34 #[.bool false, .slice A n c, .int .i64 E]).alloc (.cells #[.bool true, .slice A' n' c', .int .i64 E'] 34)).alloc (.cells #[.bool false, .slice none 0 0, .int .i64 0] 34))
  have HY := Lib.hid ((Blk.new_ (w.alloc (.cells #[.bool false, .slice A n c, .int .i64 E] 34)) 34 #[.bool true, .slice A' n' c', .int .i64 E'] (w.heap.size + 1) (by simp)).alloc (.cells #[.bool false, .slice none 0 0, .int .i64 0] 34))
  have HR := Lib.hid (Blk.new_ ((w.alloc (.cells #[.bool false, .slice A n c, .int .i64 E] 34)).alloc (.cells #[.bool true, .slice A' n' c', .int .i64 E'] 34)) 34 #[.bool false, .slice none 0 0, .int .i64 0] (w.heap.size + 1 + 1) (by simp))
  have HBl := Lib.hid ((((Below.refl w.heap.size w).alloc (Nat.le_refl _) (.cells #[.bool false, .slice A n c, .int .i64 E] 34)).alloc (by simp) (.cells #[.bool true, .slice A' n' c', .int .i64 E'] 34)).alloc (by simp; omega) (.cells #[.bool false, .slice none 0 0, .int .i64 0] 34))
  obtain ⟨i0, hi, hz0, hz1, hz2⟩ := info_parts info_i64
  have HSz := Lib.hid (fun W (hb : Below w.heap.size w W) r hr => rsize_any false A n c l E true A' n' c' l' E' W (h.below hb) (h'.below hb) (by omega) (by omega) (by omega) (by omega) fr tz N hf hN r hr)
  have hn0 : ((n : Int) == 0) = false := by simp; omega
  have hn1 : ((n' : Int) == 0) = false := by simp; omega
  have HC := Lib.hid hC
  clear h h' hn hn' hE hE' hf hfb hends hN h0 h1 hC
  go_enter Try.func17, Try.ntmps17
  obtain ⟨a0, a1, a2⟩ := cells3 HX.out
  obtain ⟨b0, b1, b2⟩ := cells3 HY.out
  go_wp2_with fail
  refine (HEn.out _).mono ?_
  rintro e w1 ⟨rfl, hb⟩
  have HX1 := Lib.hid (HX.out.next hb)
  have HY1 := Lib.hid (HY.out.next hb)
  have HR1 := Lib.hid (HR.out.next hb)
  have HB1 := Lib.hid (below_nx HBl.out hb)
  have HZ1 := Lib.hid (show w.heap.size + 1 + 1 + 1 ≤ w1.heap.size by have := HR1.out.lt; omega)
  clear hb a0 a1 a2 b0 b1 b2
  obtain ⟨a0, a1, a2⟩ := cells3 HX1.out
  obtain ⟨b0, b1, b2⟩ := cells3 HY1.out
  go_wp2_with fail
  clear a0 a1 a2 b0 b1 b2
  refine (HSz.out _ HB1.out (-1) (by rw [if_pos HC.out])).mono ?_
  rintro e w2 ⟨rfl, hb⟩
  have HX2 := Lib.hid (HX1.out.next hb)
  have HY2 := Lib.hid (HY1.out.next hb)
  have HR2 := Lib.hid (HR1.out.next hb)
  have HB2 := Lib.hid (below_nx HB1.out hb)
  have HZ2 := Lib.hid (Nat.le_trans HZ1.out hb.size)
  clear hb
  obtain ⟨a0, a1, a2⟩ := cells3 HX2.out
  obtain ⟨b0, b1, b2⟩ := cells3 HY2.out
  have fa0 := HX2.out.frozen 0
  have fa1 := HX2.out.frozen 1
  have fa2 := HX2.out.frozen 2
  have fb0 := HY2.out.frozen 0
  have fb1 := HY2.out.frozen 1
  have fb2 := HY2.out.frozen 2
  go_upto_region 15 with fail
  have HX3 := Lib.hid (show Blk ((((((w2.setCell ⟨w.heap.size, 0, none⟩ (.bool true)).setCell ⟨w.heap.size, 1, none⟩ (.slice A' n' c')).setCell ⟨w.heap.size, 2, none⟩ (.int .i64 E')).setCell ⟨w.heap.size + 1, 0, none⟩ (.bool false)).setCell ⟨w.heap.size + 1, 1, none⟩ (.slice A n c)).setCell ⟨w.heap.size + 1, 2, none⟩ (.int .i64 E)) w.heap.size 34 #[.bool true, .slice A' n' c', .int .i64 E'] from ((((Blk.store3 HX2.out (.bool true) (.slice A' n' c') (.int .i64 E')).other (p := ⟨w.heap.size + 1, 0, none⟩) (by simp <;> omega) (.bool false)).other (p := ⟨w.heap.size + 1, 1, none⟩) (by simp <;> omega) (.slice A n c)).other (p := ⟨w.heap.size + 1, 2, none⟩) (by simp <;> omega) (.int .i64 E)))
  have HY3 := Lib.hid (show Blk ((((((w2.setCell ⟨w.heap.size, 0, none⟩ (.bool true)).setCell ⟨w.heap.size, 1, none⟩ (.slice A' n' c')).setCell ⟨w.heap.size, 2, none⟩ (.int .i64 E')).setCell ⟨w.heap.size + 1, 0, none⟩ (.bool false)).setCell ⟨w.heap.size + 1, 1, none⟩ (.slice A n c)).setCell ⟨w.heap.size + 1, 2, none⟩ (.int .i64 E)) (w.heap.size + 1) 34 #[.bool false, .slice A n c, .int .i64 E] from Blk.store3 (((HY2.out.other (p := ⟨w.heap.size, 0, none⟩) (by simp <;> omega) (.bool true)).other (p := ⟨w.heap.size, 1, none⟩) (by simp <;> omega) (.slice A' n' c')).other (p := ⟨w.heap.size, 2, none⟩) (by simp <;> omega) (.int .i64 E')) (.bool false) (.slice A n c) (.int .i64 E))
  have HR3 := Lib.hid (show Blk ((((((w2.setCell ⟨w.heap.size, 0, none⟩ (.bool true)).setCell ⟨w.heap.size, 1, none⟩ (.slice A' n' c')).setCell ⟨w.heap.size, 2, none⟩ (.int .i64 E')).setCell ⟨w.heap.size + 1, 0, none⟩ (.bool false)).setCell ⟨w.heap.size + 1, 1, none⟩ (.slice A n c)).setCell ⟨w.heap.size + 1, 2, none⟩ (.int .i64 E)) (w.heap.size + 1 + 1) 34 #[.bool false, .slice none 0 0, .int .i64 0] from ((((((HR2.out.other (p := ⟨w.heap.size, 0, none⟩) (by simp <;> omega) (.bool true)).other (p := ⟨w.heap.size, 1, none⟩) (by simp <;> omega) (.slice A' n' c')).other (p := ⟨w.heap.size, 2, none⟩) (by simp <;> omega) (.int .i64 E')).other (p := ⟨w.heap.size + 1, 0, none⟩) (by simp <;> omega) (.bool false)).other (p := ⟨w.heap.size + 1, 1, none⟩) (by simp <;> omega) (.slice A n c)).other (p := ⟨w.heap.size + 1, 2, none⟩) (by simp <;> omega) (.int .i64 E)))
  have HB3 := Lib.hid (show Below w.heap.size w ((((((w2.setCell ⟨w.heap.size, 0, none⟩ (.bool true)).setCell ⟨w.heap.size, 1, none⟩ (.slice A' n' c')).setCell ⟨w.heap.size, 2, none⟩ (.int .i64 E')).setCell ⟨w.heap.size + 1, 0, none⟩ (.bool false)).setCell ⟨w.heap.size + 1, 1, none⟩ (.slice A n c)).setCell ⟨w.heap.size + 1, 2, none⟩ (.int .i64 E)) from ((((((HB2.out.setCell (p := ⟨w.heap.size, 0, none⟩) (Nat.le_refl _) _).setCell (p := ⟨w.heap.size, 1, none⟩) (Nat.le_refl _) _).setCell (p := ⟨w.heap.size, 2, none⟩) (Nat.le_refl _) _).setCell (p := ⟨w.heap.size + 1, 0, none⟩) (by simp) _).setCell (p := ⟨w.heap.size + 1, 1, none⟩) (by simp) _).setCell (p := ⟨w.heap.size + 1, 2, none⟩) (by simp) _))
  have HZ3 := Lib.hid (show w.heap.size + 1 + 1 + 1 ≤ ((((((w2.setCell ⟨w.heap.size, 0, none⟩ (.bool true)).setCell ⟨w.heap.size, 1, none⟩ (.slice A' n' c')).setCell ⟨w.heap.size, 2, none⟩ (.int .i64 E')).setCell ⟨w.heap.size + 1, 0, none⟩ (.bool false)).setCell ⟨w.heap.size + 1, 1, none⟩ (.slice A n c)).setCell ⟨w.heap.size + 1, 2, none⟩ (.int .i64 E)).heap.size by simpa [World.setCell] using HZ2.out)
  clear a0 a1 a2 b0 b1 b2 fa0 fa1 fa2 fb0 fb1 fb2
  generalize ((((((w2.setCell ⟨w.heap.size, 0, none⟩ (.bool true)).setCell ⟨w.heap.size, 1, none⟩ (.slice A' n' c')).setCell ⟨w.heap.size, 2, none⟩ (.int .i64 E')).setCell ⟨w.heap.size + 1, 0, none⟩ (.bool false)).setCell ⟨w.heap.size + 1, 1, none⟩ (.slice A n c)).setCell ⟨w.heap.size + 1, 2, none⟩ (.int .i64 E)) = w3 at *
  go_wp2_with fail
  go_loopw [7, 8, 11] (fun L cc p wr => ∃ (q b : Nat) (Ls : List Nat), q ≤ N ∧ b ≤ 1 ∧ cc = .int .i64 (b : Int) ∧ p = .int .i64 (fr + (q : Int)) ∧ Hid (Ls.length = q ∧ Digs 65536 Ls ∧ ofd 65536 Ls + dsum l E fr q = dsum l' E' fr q + 65536 ^ q * b) ∧ wr.ownsRow (w.heap.size + 1 + 1 + 1) 3 1 L q (ints Ls) ∧ Below w.heap.size w wr ∧ Blk wr w.heap.size 34 #[.bool true, .slice A' n' c', .int .i64 E'] ∧ Blk wr (w.heap.size + 1) 34 #[.bool false, .slice A n c, .int .i64 E] ∧ Blk wr (w.heap.size + 1 + 1) 34 #[.bool false, .slice none 0 0, .int .i64 0] ∧ w.heap.size + 1 + 1 + 1 ≤ wr.heap.size) (fun _ _ p _ => (tz - intOf p).toNat)
  case atStart => exact ⟨0, 0, [], Nat.zero_le _, by omega, rfl, by simp, Lib.hid ⟨rfl, Digs.nil _, by simp [ofd, dsum]⟩, World.ownsRow_nil _ _ _ _, HB3.out, HX3.out, HY3.out, HR3.out, HZ3.out⟩
  case round =>
    clear HX1 HY1 HR1 HB1 HZ1 HX2 HY2 HR2 HB2 HZ2 HX3 HY3 HR3 HB3 HZ3 HSz
    obtain ⟨q, b, Ls, hq, hcr, rfl, rfl, HL, hO, hB, hX, hY, hR, hZ⟩ := hrel
    have HOr := Lib.hid hO
    have HBr := Lib.hid hB
    have HXr := Lib.hid hX
    have HYr := Lib.hid hY
    have HRr := Lib.hid hR
    have HZr := Lib.hid hZ
    clear hO hB hX hY hR hZ
    by_cases hlt : q < N
    · have hq1 : q + 1 ≤ 4294967296 := by have := HNb.out; omega
      obtain ⟨P, hP⟩ : ∃ P, fr + (q : Int) = P := ⟨_, rfl⟩
      have hp1 : wrap64 (P + 1) = P + 1 := wrap64_in (by have := HFb.out; have := HNn.out; omega)
      have hlt2 : decide (P < tz) = true := by simp; have := HNn.out; omega
      have HPb := Lib.hid (show P.natAbs ≤ 1099511627776 by have := HFb.out; have := HNn.out; omega)
      have HPP := Lib.hid hP
      rw [hP]
      obtain ⟨x, hx⟩ : ∃ x, dat l' E' P = x := ⟨_, rfl⟩
      obtain ⟨y, hy⟩ : ∃ y, dat l E P = y := ⟨_, rfl⟩
      have hx6 : x < 65536 := by rw [← hx]; exact dat_lt HS.out.2 _ _
      have hy6 : y < 65536 := by rw [← hy]; exact dat_lt HS.out.1 _ _
      have HAtP := Lib.hid (fun W (hb : Below w.heap.size w W) => HAt.out W hb P HPb.out)
      have HAtP' := Lib.hid (fun W (hb : Below w.heap.size w W) => HAt'.out W hb P HPb.out)
      rw [hy] at HAtP
      rw [hx] at HAtP'
      have HXY := Lib.hid (And.intro hx hy)
      clear hx hy hP
      obtain ⟨a0, a1, a2⟩ := cells3 HXr.out
      obtain ⟨b0, b1, b2⟩ := cells3 HYr.out
      obtain ⟨U, hU⟩ : ∃ U : Int, (x : Int) - (y : Int) = U := ⟨_, rfl⟩
      obtain ⟨V, hV⟩ : ∃ V : Int, U - (b : Int) = V := ⟨_, rfl⟩
      have wU : IntKind.i64.wrap U = U := iwrap_in (by omega)
      have wV : IntKind.i64.wrap V = V := iwrap_in (by omega)
      have HUV := Lib.hid (show (x : Int) - (y : Int) - (b : Int) = V by omega)
      have HLT := Lib.hid (And.intro hlt hq)
      have HB01 := Lib.hid (And.intro hcr (And.intro hx6 hy6))
      clear hlt hcr hx6 hy6
      go_wp2_with fail
      refine wp_region_inv [83, 84, 85, 86, 87, 88, 89, 90, 91, 12] (fun d s W => (d 0 = true → s 83 = .agg #[.bool true, .slice A' n' c', .int .i64 E']) ∧ (d 1 = true → s 84 = .int .i64 P) ∧ (d 2 = true → s 85 = .int .i64 (x : Int)) ∧ (d 3 = true → s 86 = .agg #[.bool false, .slice A n c, .int .i64 E]) ∧ (d 4 = true → s 87 = .int .i64 P) ∧ (d 5 = true → s 88 = .int .i64 (y : Int)) ∧ (d 6 = true → s 89 = .int .i64 U) ∧ (d 7 = true → s 90 = .int .i64 (b : Int)) ∧ (d 8 = true → s 91 = .int .i64 V) ∧ (d 9 = true → s 12 = .int .i64 V) ∧ Below wr.heap.size wr W)
        rfl (by kernel_rfl) ?_ ?_ ?_
      · exact ⟨by simp, by simp, by simp, by simp, by simp, by simp, by simp, by simp, by simp, by simp, (Below.refl _ _).drew⟩
      · refine ⟨?_, ?_, ?_, ?_, ?_, ?_, ?_, ?_, ?_, ?_, trivial⟩
        all_goals
          intro d s W hJ hfr hd hdep
          simp only [List.mem_cons, forall_eq_or_imp, List.not_mem_nil, false_implies, implies_true, and_true, Region.binds] at hdep
          have f2 := hfr 2 (by decide)
          have f3 := hfr 3 (by decide)
          have f8 := hfr 8 (by decide)
          have f11 := hfr 11 (by decide)
          simp at f2 f3 f8 f11 hdep
          obtain ⟨h0, h1, h2, h3, h4, h5, h6, h7, h8, h9, hT⟩ := hJ
        · unfold OpSteps
          obtain ⟨p0, p1, p2⟩ := cells3 (HXr.out.below hT HXr.out.lt)
          simp [go_sem, evS, f2, p0, p1, p2]
          exact ⟨fun _ => by simp [sput], fun h => by simpa [sput] using h1 (by simpa [did] using h), fun h => by simpa [sput] using h2 (by simpa [did] using h), fun h => by simpa [sput] using h3 (by simpa [did] using h), fun h => by simpa [sput] using h4 (by simpa [did] using h), fun h => by simpa [sput] using h5 (by simpa [did] using h), fun h => by simpa [sput] using h6 (by simpa [did] using h), fun h => by simpa [sput] using h7 (by simpa [did] using h), fun h => by simpa [sput] using h8 (by simpa [did] using h), fun h => by simpa [sput] using h9 (by simpa [did] using h), hT⟩
        · unfold OpSteps
          simp [go_sem, evS, f11]
          exact ⟨fun h => by simpa [sput] using h0 (by simpa [did] using h), fun _ => by simp [sput], fun h => by simpa [sput] using h2 (by simpa [did] using h), fun h => by simpa [sput] using h3 (by simpa [did] using h), fun h => by simpa [sput] using h4 (by simpa [did] using h), fun h => by simpa [sput] using h5 (by simpa [did] using h), fun h => by simpa [sput] using h6 (by simpa [did] using h), fun h => by simpa [sput] using h7 (by simpa [did] using h), fun h => by simpa [sput] using h8 (by simpa [did] using h), fun h => by simpa [sput] using h9 (by simpa [did] using h), hT⟩
        · have fz0 := h0 (by simp [hdep])
          have fz1 := h1 (by simp [hdep])
          unfold OpSteps
          simp [go_sem, evS, fz0, fz1]
          refine (HAtP'.out W (below_nx HBr.out hT)).mono ?_
          rintro e W' ⟨rfl, hb⟩
          refine ⟨_, rfl, ?_⟩
          exact ⟨fun h => by simpa [sput] using h0 (by simpa [did] using h), fun h => by simpa [sput] using h1 (by simpa [did] using h), fun _ => by simp [sput], fun h => by simpa [sput] using h3 (by simpa [did] using h), fun h => by simpa [sput] using h4 (by simpa [did] using h), fun h => by simpa [sput] using h5 (by simpa [did] using h), fun h => by simpa [sput] using h6 (by simpa [did] using h), fun h => by simpa [sput] using h7 (by simpa [did] using h), fun h => by simpa [sput] using h8 (by simpa [did] using h), fun h => by simpa [sput] using h9 (by simpa [did] using h), below_nx hT hb⟩
        · unfold OpSteps
          obtain ⟨p0, p1, p2⟩ := cells3 (HYr.out.below hT HYr.out.lt)
          simp [go_sem, evS, f3, p0, p1, p2]
          exact ⟨fun h => by simpa [sput] using h0 (by simpa [did] using h), fun h => by simpa [sput] using h1 (by simpa [did] using h), fun h => by simpa [sput] using h2 (by simpa [did] using h), fun _ => by simp [sput], fun h => by simpa [sput] using h4 (by simpa [did] using h), fun h => by simpa [sput] using h5 (by simpa [did] using h), fun h => by simpa [sput] using h6 (by simpa [did] using h), fun h => by simpa [sput] using h7 (by simpa [did] using h), fun h => by simpa [sput] using h8 (by simpa [did] using h), fun h => by simpa [sput] using h9 (by simpa [did] using h), hT⟩
        · unfold OpSteps
          simp [go_sem, evS, f11]
          exact ⟨fun h => by simpa [sput] using h0 (by simpa [did] using h), fun h => by simpa [sput] using h1 (by simpa [did] using h), fun h => by simpa [sput] using h2 (by simpa [did] using h), fun h => by simpa [sput] using h3 (by simpa [did] using h), fun _ => by simp [sput], fun h => by simpa [sput] using h5 (by simpa [did] using h), fun h => by simpa [sput] using h6 (by simpa [did] using h), fun h => by simpa [sput] using h7 (by simpa [did] using h), fun h => by simpa [sput] using h8 (by simpa [did] using h), fun h => by simpa [sput] using h9 (by simpa [did] using h), hT⟩
        · have fz3 := h3 (by simp [hdep])
          have fz4 := h4 (by simp [hdep])
          unfold OpSteps
          simp [go_sem, evS, fz3, fz4]
          refine (HAtP.out W (below_nx HBr.out hT)).mono ?_
          rintro e W' ⟨rfl, hb⟩
          refine ⟨_, rfl, ?_⟩
          exact ⟨fun h => by simpa [sput] using h0 (by simpa [did] using h), fun h => by simpa [sput] using h1 (by simpa [did] using h), fun h => by simpa [sput] using h2 (by simpa [did] using h), fun h => by simpa [sput] using h3 (by simpa [did] using h), fun h => by simpa [sput] using h4 (by simpa [did] using h), fun _ => by simp [sput], fun h => by simpa [sput] using h6 (by simpa [did] using h), fun h => by simpa [sput] using h7 (by simpa [did] using h), fun h => by simpa [sput] using h8 (by simpa [did] using h), fun h => by simpa [sput] using h9 (by simpa [did] using h), below_nx hT hb⟩
        · have fz2 := h2 (by simp [hdep])
          have fz5 := h5 (by simp [hdep])
          unfold OpSteps
          simp [go_sem, evS, fz2, fz5, hU, wU]
          exact ⟨fun h => by simpa [sput] using h0 (by simpa [did] using h), fun h => by simpa [sput] using h1 (by simpa [did] using h), fun h => by simpa [sput] using h2 (by simpa [did] using h), fun h => by simpa [sput] using h3 (by simpa [did] using h), fun h => by simpa [sput] using h4 (by simpa [did] using h), fun h => by simpa [sput] using h5 (by simpa [did] using h), fun _ => by simp [sput], fun h => by simpa [sput] using h7 (by simpa [did] using h), fun h => by simpa [sput] using h8 (by simpa [did] using h), fun h => by simpa [sput] using h9 (by simpa [did] using h), hT⟩
        · unfold OpSteps
          simp [go_sem, evS, f8]
          exact ⟨fun h => by simpa [sput] using h0 (by simpa [did] using h), fun h => by simpa [sput] using h1 (by simpa [did] using h), fun h => by simpa [sput] using h2 (by simpa [did] using h), fun h => by simpa [sput] using h3 (by simpa [did] using h), fun h => by simpa [sput] using h4 (by simpa [did] using h), fun h => by simpa [sput] using h5 (by simpa [did] using h), fun h => by simpa [sput] using h6 (by simpa [did] using h), fun _ => by simp [sput], fun h => by simpa [sput] using h8 (by simpa [did] using h), fun h => by simpa [sput] using h9 (by simpa [did] using h), hT⟩
        · have fz6 := h6 (by simp [hdep])
          have fz7 := h7 (by simp [hdep])
          unfold OpSteps
          simp [go_sem, evS, fz6, fz7, hV, wV]
          exact ⟨fun h => by simpa [sput] using h0 (by simpa [did] using h), fun h => by simpa [sput] using h1 (by simpa [did] using h), fun h => by simpa [sput] using h2 (by simpa [did] using h), fun h => by simpa [sput] using h3 (by simpa [did] using h), fun h => by simpa [sput] using h4 (by simpa [did] using h), fun h => by simpa [sput] using h5 (by simpa [did] using h), fun h => by simpa [sput] using h6 (by simpa [did] using h), fun h => by simpa [sput] using h7 (by simpa [did] using h), fun _ => by simp [sput], fun h => by simpa [sput] using h9 (by simpa [did] using h), hT⟩
        · have fz8 := h8 (by simp [hdep])
          unfold OpSteps
          simp [go_sem, evS, fz8]
          exact ⟨fun h => by simpa [sput] using h0 (by simpa [did] using h), fun h => by simpa [sput] using h1 (by simpa [did] using h), fun h => by simpa [sput] using h2 (by simpa [did] using h), fun h => by simpa [sput] using h3 (by simpa [did] using h), fun h => by simpa [sput] using h4 (by simpa [did] using h), fun h => by simpa [sput] using h5 (by simpa [did] using h), fun h => by simpa [sput] using h6 (by simpa [did] using h), fun h => by simpa [sput] using h7 (by simpa [did] using h), fun h => by simpa [sput] using h8 (by simpa [did] using h), fun _ => by simp [sput], hT⟩
      intro d s W hJ hd
      obtain ⟨h0, h1, h2, h3, h4, h5, h6, h7, h8, h9, hT⟩ := hJ
      have hs12 := h9 (hd 9 (by decide))
      have hb : Below wr.heap.size wr W := hT
      clear h0 h1 h2 h3 h4 h5 h6 h7 h8 h9 hT hd
      simp [setAll, hs12]
      clear hs12
      generalize s 83 = s83
      generalize s 84 = s84
      generalize s 85 = s85
      generalize s 86 = s86
      generalize s 87 = s87
      generalize s 88 = s88
      generalize s 89 = s89
      generalize s 90 = s90
      generalize s 91 = s91
      have HX2 := Lib.hid (HXr.out.next hb)
      have HY2 := Lib.hid (HYr.out.next hb)
      have HR2 := Lib.hid (HRr.out.next hb)
      have HB2 := Lib.hid (below_nx HBr.out hb)
      have HZ2 := Lib.hid (Nat.le_trans HZr.out hb.size)
      have HO2 := Lib.hid (ownsRow_below HOr.out hb)
      clear hb a0 a1 a2 b0 b1 b2
      generalize W = w2 at *
      clear hU hV wU wV hlt2
      by_cases hbw : y + b ≤ x
      · obtain ⟨z, hz, hVz, hz6, ht⟩ := borrow_facts0 HUV.out hbw HB01.out.2.1
        have HVz := Lib.hid hVz
        have HStep := Lib.hid (show (Ls ++ [z]).length = q + 1 ∧ Digs 65536 (Ls ++ [z]) ∧ ofd 65536 (Ls ++ [z]) + dsum l E fr (q + 1) = dsum l' E' fr (q + 1) + 65536 ^ (q + 1) * 0 from by
          refine ⟨by simp [HL.out.1], Digs.append HL.out.2.1 (Digs.cons hz6 (Digs.nil _)), ?_⟩
          have := borrow_none (x := x) (y := y) HL.out.1 HL.out.2.2 hbw
          rw [hz] at this
          rw [dsum, dsum, HPP.out, HXY.out.1, HXY.out.2]
          exact this)
        clear hz hbw hVz hz6
        have HOaa := Lib.hid (HO2.out.alloc (.cells #[.int .i64 V] 3))
        go_wp2_with (at_builtin; refine wpList_append_own _ rfl _ _ 32 rfl (w.heap.size + 1 + 1 + 1) 3 i0 (.int .i64 0) 1 8 Try.underlying32 hi hz0 hz1 hz2 rfl (by decide) _ q (ints Ls) rfl HOaa.out ⟨w2.heap.size, 0, none⟩ 1 1 [.int .i64 V] rfl rfl ?c1a (by intro u hu; simp at hu; subst hu; rfl) ?c3a ?c4a ?c5a ?_)
        case c1a => exact cell_one_new _ _ _
        case c3a => unfold maxLen; have := HNb.out; omega
        case c4a => have := HNb.out; omega
        case c5a => (try simp); have := HZ2.out; omega
        intro v' w3 hown' hgrow _
        have hal := (Below.refl w2.heap.size w2).alloc (Nat.le_refl _) (.cells #[.int .i64 V] 3)
        have hgx : ∀ k, k < w.heap.size + 1 + 1 + 1 → w3.heap[k]? = w2.heap[k]? := fun k hk => (hgrow.block k (by simp; have := HZ2.out; omega) (fun e => by have := (HOaa.out.lt k e.symm).1; omega)).trans (hal.block k (by have := HZ2.out; omega))
        have HX3 := Lib.hid (show Blk w3 w.heap.size 34 _ from (hgx _ (by omega)).trans HX2.out)
        have HY3 := Lib.hid (show Blk w3 (w.heap.size + 1) 34 _ from (hgx _ (by omega)).trans HY2.out)
        have HR3 := Lib.hid (show Blk w3 (w.heap.size + 1 + 1) 34 _ from (hgx _ (by omega)).trans HR2.out)
        have HB3 := Lib.hid ((below_nx HB2.out hal).grown hgrow (by simp; have := HZ2.out; omega) (fun k hk => by have := (HOaa.out.lt k hk).1; omega))
        have HZ3 := Lib.hid (show w.heap.size + 1 + 1 + 1 ≤ w3.heap.size by have := hgrow.size; have := HZ2.out; simp at *; omega)
        have HO3 := Lib.hid (show w3.ownsRow (w.heap.size + 1 + 1 + 1) 3 1 v' (q + 1) (ints (Ls ++ [z])) by rw [ints_snoc, ← HVz.out]; exact hown')
        clear hown' hgrow hal hgx
        go_wp2_with fail
        go_roundw
        case rel => exact ⟨q + 1, 0, Ls ++ [z], by have := HLT.out.1; omega, by omega, rfl, congrArg (Value.int .i64) (by have := HPP.out; rw [hp1]; omega), HStep, HO3.out, HB3.out, HX3.out, HY3.out, HR3.out, HZ3.out⟩
        case measure => have := HPP.out; have := HLT.out.1; have := HNn.out; rw [hp1]; simp [intOf]; omega
      · obtain ⟨z, hz, hVz, wz, hz6, ht, hbw1, hbw2⟩ := borrow_facts1 HUV.out hbw HB01.out.2.1 HB01.out.2.2 HB01.out.1
        have HStep := Lib.hid (show (Ls ++ [z]).length = q + 1 ∧ Digs 65536 (Ls ++ [z]) ∧ ofd 65536 (Ls ++ [z]) + dsum l E fr (q + 1) = dsum l' E' fr (q + 1) + 65536 ^ (q + 1) * 1 from by
          refine ⟨by simp [HL.out.1], Digs.append HL.out.2.1 (Digs.cons hz6 (Digs.nil _)), ?_⟩
          have := borrow_one (x := x) (y := y) HL.out.1 HL.out.2.2 hbw1 hbw2
          rw [hz] at this
          rw [dsum, dsum, HPP.out, HXY.out.1, HXY.out.2]
          exact this)
        clear hz hbw hbw1 hbw2 hz6
        have HOab := Lib.hid (HO2.out.alloc (.cells #[.int .i64 (z : Int)] 3))
        go_wp2_with (at_builtin; refine wpList_append_own _ rfl _ _ 32 rfl (w.heap.size + 1 + 1 + 1) 3 i0 (.int .i64 0) 1 8 Try.underlying32 hi hz0 hz1 hz2 rfl (by decide) _ q (ints Ls) rfl HOab.out ⟨w2.heap.size, 0, none⟩ 1 1 [.int .i64 (z : Int)] rfl rfl ?c1b (by intro u hu; simp at hu; subst hu; rfl) ?c3b ?c4b ?c5b ?_)
        case c1b => exact cell_one_new _ _ _
        case c3b => unfold maxLen; have := HNb.out; omega
        case c4b => have := HNb.out; omega
        case c5b => (try simp); have := HZ2.out; omega
        intro v' w3 hown' hgrow _
        have hal := (Below.refl w2.heap.size w2).alloc (Nat.le_refl _) (.cells #[.int .i64 (z : Int)] 3)
        have hgx : ∀ k, k < w.heap.size + 1 + 1 + 1 → w3.heap[k]? = w2.heap[k]? := fun k hk => (hgrow.block k (by simp; have := HZ2.out; omega) (fun e => by have := (HOab.out.lt k e.symm).1; omega)).trans (hal.block k (by have := HZ2.out; omega))
        have HX3 := Lib.hid (show Blk w3 w.heap.size 34 _ from (hgx _ (by omega)).trans HX2.out)
        have HY3 := Lib.hid (show Blk w3 (w.heap.size + 1) 34 _ from (hgx _ (by omega)).trans HY2.out)
        have HR3 := Lib.hid (show Blk w3 (w.heap.size + 1 + 1) 34 _ from (hgx _ (by omega)).trans HR2.out)
        have HB3 := Lib.hid ((below_nx HB2.out hal).grown hgrow (by simp; have := HZ2.out; omega) (fun k hk => by have := (HOab.out.lt k hk).1; omega))
        have HZ3 := Lib.hid (show w.heap.size + 1 + 1 + 1 ≤ w3.heap.size by have := hgrow.size; have := HZ2.out; simp at *; omega)
        have HO3 := Lib.hid (show w3.ownsRow (w.heap.size + 1 + 1 + 1) 3 1 v' (q + 1) (ints (Ls ++ [z])) by rw [ints_snoc]; exact hown')
        clear hown' hgrow hal hgx
        go_wp2_with fail
        go_roundw
        case rel => exact ⟨q + 1, 1, Ls ++ [z], by have := HLT.out.1; omega, by omega, rfl, congrArg (Value.int .i64) (by have := HPP.out; rw [hp1]; omega), HStep, HO3.out, HB3.out, HX3.out, HY3.out, HR3.out, HZ3.out⟩
        case measure => have := HPP.out; have := HLT.out.1; have := HNn.out; rw [hp1]; simp [intOf]; omega
    · obtain rfl : q = N := by omega
      have hlt2 : decide (fr + (q : Int) < tz) = false := by simp; have := HNn.out; omega
      obtain ⟨a0, a1, a2⟩ := cells3 HXr.out
      have HR3 := HRr
      have HB3 := HBr
      have HEnd := Lib.hid (borrow_end HL.out.1 HL.out.2.1 HL.out.2.2 (Nat.le_of_lt HC.out))
      have hrd := own_rd (n := q) HOr.out HL.out.2.1
      obtain ⟨Am, cm, rfl, hRm, hcm⟩ := hrd
      have HRm := Lib.hid hRm
      have Hcm := Lib.hid hcm
      clear hRm hcm
      go_wp2_with fail
      refine (made_any true Am q cm _ fr _ HRm.out (by have := HNb.out; omega) (by have := HFb.out; omega) Hcm.out).mono ?_
      rintro e w4 ⟨ng4, A4, n4, c4, E4, L4, rfl, hR4, hN4, hd4, hb⟩
      have HR4 := Lib.hid (HR3.out.next hb)
      have f0 := HR4.out.frozen 0
      have f1 := HR4.out.frozen 1
      have f2 := HR4.out.frozen 2
      obtain ⟨r0, r1, r2⟩ := cells3 HR4.out
      have HB4 := Lib.hid (below_nx HB3.out hb)
      have HRd4 := Lib.hid hR4
      have HN4 := Lib.hid hN4
      have HD4 := Lib.hid (show rdy ng4 L4 E4 = rdy false l E + rdy true l' E' from hd4.trans (by rw [HV1.out, HV2.out, dy_add, rdy_sgd, HEnd.out]; congr 1; rw [Int.add_comm]; exact (sgd_sub true (Nat.le_of_lt HC.out)).symm))
      clear hb hR4 hN4 hd4 a0 a1 a2
      go_wp2_with fail
      obtain ⟨q0, q1, q2⟩ := cells3 (Blk.store3 HR4.out (.bool ng4) (.slice A4 n4 c4) (.int .i64 E4))
      exact bodyPost_ret (v := .agg #[.bool ng4, .slice A4 n4 c4, .int .i64 E4]) (by simp [results, Try.results17, go_sem, q0, q1, q2]) rfl (retR_done HR4.out HRd4.out HN4.out HD4.out HB4.out (by omega))

set_option maxRecDepth 100000 in
set_option maxHeartbeats 8000000 in
theorem radd_s2 (A : Option Addr) (n c : Nat) (l : List Nat) (E : Int) (A' : Option Addr) (n' c' : Nat) (l' : List Nat) (E' : Int) (w : World) (h : Rd w A n c l) (h' : Rd w A' n' c' l') (hn : n ≤ 536870912) (hn' : n' ≤ 536870912) (hE : E.natAbs ≤ 1073741824) (hE' : E'.natAbs ≤ 1073741824) (h0 : n ≠ 0) (h1 : n' ≠ 0) (fr tz : Int) (N : Nat) (hf : endsF n E n' E' = (fr, tz)) (hN : fr + N = tz) (hC : dsum l E fr N < dsum l' E' fr N) :
    Calls Try.prog 17 #[.agg #[.bool true, .slice A n c, .int .i64 E], .agg #[.bool false, .slice A' n' c', .int .i64 E']] w (RetR (rdy true l E + rdy false l' E') w) := by
  have hfb := ends_bd hf hn hn' hE hE'
  have hends := ends_ok hf
  have HEn := Lib.hid (fun W => rends_any true A n c E false A' n' c' E' W (by omega) (by omega) (by omega) (by omega) fr tz hf)
  have HAt := Lib.hid (fun W (hb : Below w.heap.size w W) p (hp : p.natAbs ≤ 1099511627776) => rdat_any true A n c l E p W (h.below hb) (by omega) (by omega) hp)
  have HAt' := Lib.hid (fun W (hb : Below w.heap.size w W) p (hp : p.natAbs ≤ 1099511627776) => rdat_any false A' n' c' l' E' p W (h'.below hb) (by omega) (by omega) hp)
  have HS := Lib.hid (And.intro h.2.2.2.1 h'.2.2.2.1)
  have Hh := Lib.hid (And.intro h h')
  have HV1 := Lib.hid (show rdy true l E = dy (sgd true (dsum l E fr N)) (16 * fr) from dsum_val (by rw [← h.1]; exact hends.1) hN true)
  have HV2 := Lib.hid (show rdy false l' E' = dy (sgd false (dsum l' E' fr N)) (16 * fr) from dsum_val (by rw [← h'.1]; exact hends.2.1) hN false)
  have HFb := Lib.hid hfb
  have HNn := Lib.hid hN
  have HNb := Lib.hid (show N ≤ 4294967296 by omega)
  have HX := Lib.hid (((Blk.new w 34 #[.bool true, .slice A n c, .int .i64 E]).alloc (.cells #[.bool false, .slice A' n' c', .int .i64 E'] 34)).alloc (.cells #[.bool false, .slice none 0 0, .int .i64 0] 34))
  have HY := Lib.hid ((Blk.new_ (w.alloc (.cells #[.bool true, .slice A n c, .int .i64 E] 34)) 34 #[.bool false, .slice A' n' c', .int .i64 E'] (w.heap.size + 1) (by simp)).alloc (.cells #[.bool false, .slice none 0 0, .int .i64 0] 34))
  have HR := Lib.hid (Blk.new_ ((w.alloc (.cells #[.bool true, .slice A n c, .int .i64 E] 34)).alloc (.cells #[.bool false, .slice A' n' c', .int .i64 E'] 34)) 34 #[.bool false, .slice none 0 0, .int .i64 0] (w.heap.size + 1 + 1) (by simp))
  have HBl := Lib.hid ((((Below.refl w.heap.size w).alloc (Nat.le_refl _) (.cells #[.bool true, .slice A n c, .int .i64 E] 34)).alloc (by simp) (.cells #[.bool false, .slice A' n' c', .int .i64 E'] 34)).alloc (by simp; omega) (.cells #[.bool false, .slice none 0 0, .int .i64 0] 34))
  obtain ⟨i0, hi, hz0, hz1, hz2⟩ := info_parts info_i64
  have HSz := Lib.hid (fun W (hb : Below w.heap.size w W) r hr => rsize_any true A n c l E false A' n' c' l' E' W (h.below hb) (h'.below hb) (by omega) (by omega) (by omega) (by omega) fr tz N hf hN r hr)
  have hn0 : ((n : Int) == 0) = false := by simp; omega
  have hn1 : ((n' : Int) == 0) = false := by simp; omega
  have HC := Lib.hid hC
  clear h h' hn hn' hE hE' hf hfb hends hN h0 h1 hC
  go_enter Try.func17, Try.ntmps17
  obtain ⟨a0, a1, a2⟩ := cells3 HX.out
  obtain ⟨b0, b1, b2⟩ := cells3 HY.out
  go_wp2_with fail
  refine (HEn.out _).mono ?_
  rintro e w1 ⟨rfl, hb⟩
  have HX1 := Lib.hid (HX.out.next hb)
  have HY1 := Lib.hid (HY.out.next hb)
  have HR1 := Lib.hid (HR.out.next hb)
  have HB1 := Lib.hid (below_nx HBl.out hb)
  have HZ1 := Lib.hid (show w.heap.size + 1 + 1 + 1 ≤ w1.heap.size by have := HR1.out.lt; omega)
  clear hb a0 a1 a2 b0 b1 b2
  obtain ⟨a0, a1, a2⟩ := cells3 HX1.out
  obtain ⟨b0, b1, b2⟩ := cells3 HY1.out
  go_wp2_with fail
  clear a0 a1 a2 b0 b1 b2
  refine (HSz.out _ HB1.out (-1) (by rw [if_pos HC.out])).mono ?_
  rintro e w2 ⟨rfl, hb⟩
  have HX2 := Lib.hid (HX1.out.next hb)
  have HY2 := Lib.hid (HY1.out.next hb)
  have HR2 := Lib.hid (HR1.out.next hb)
  have HB2 := Lib.hid (below_nx HB1.out hb)
  have HZ2 := Lib.hid (Nat.le_trans HZ1.out hb.size)
  clear hb
  obtain ⟨a0, a1, a2⟩ := cells3 HX2.out
  obtain ⟨b0, b1, b2⟩ := cells3 HY2.out
  have fa0 := HX2.out.frozen 0
  have fa1 := HX2.out.frozen 1
  have fa2 := HX2.out.frozen 2
  have fb0 := HY2.out.frozen 0
  have fb1 := HY2.out.frozen 1
  have fb2 := HY2.out.frozen 2
  go_upto_region 15 with fail
  have HX3 := Lib.hid (show Blk ((((((w2.setCell ⟨w.heap.size, 0, none⟩ (.bool false)).setCell ⟨w.heap.size, 1, none⟩ (.slice A' n' c')).setCell ⟨w.heap.size, 2, none⟩ (.int .i64 E')).setCell ⟨w.heap.size + 1, 0, none⟩ (.bool true)).setCell ⟨w.heap.size + 1, 1, none⟩ (.slice A n c)).setCell ⟨w.heap.size + 1, 2, none⟩ (.int .i64 E)) w.heap.size 34 #[.bool false, .slice A' n' c', .int .i64 E'] from ((((Blk.store3 HX2.out (.bool false) (.slice A' n' c') (.int .i64 E')).other (p := ⟨w.heap.size + 1, 0, none⟩) (by simp <;> omega) (.bool true)).other (p := ⟨w.heap.size + 1, 1, none⟩) (by simp <;> omega) (.slice A n c)).other (p := ⟨w.heap.size + 1, 2, none⟩) (by simp <;> omega) (.int .i64 E)))
  have HY3 := Lib.hid (show Blk ((((((w2.setCell ⟨w.heap.size, 0, none⟩ (.bool false)).setCell ⟨w.heap.size, 1, none⟩ (.slice A' n' c')).setCell ⟨w.heap.size, 2, none⟩ (.int .i64 E')).setCell ⟨w.heap.size + 1, 0, none⟩ (.bool true)).setCell ⟨w.heap.size + 1, 1, none⟩ (.slice A n c)).setCell ⟨w.heap.size + 1, 2, none⟩ (.int .i64 E)) (w.heap.size + 1) 34 #[.bool true, .slice A n c, .int .i64 E] from Blk.store3 (((HY2.out.other (p := ⟨w.heap.size, 0, none⟩) (by simp <;> omega) (.bool false)).other (p := ⟨w.heap.size, 1, none⟩) (by simp <;> omega) (.slice A' n' c')).other (p := ⟨w.heap.size, 2, none⟩) (by simp <;> omega) (.int .i64 E')) (.bool true) (.slice A n c) (.int .i64 E))
  have HR3 := Lib.hid (show Blk ((((((w2.setCell ⟨w.heap.size, 0, none⟩ (.bool false)).setCell ⟨w.heap.size, 1, none⟩ (.slice A' n' c')).setCell ⟨w.heap.size, 2, none⟩ (.int .i64 E')).setCell ⟨w.heap.size + 1, 0, none⟩ (.bool true)).setCell ⟨w.heap.size + 1, 1, none⟩ (.slice A n c)).setCell ⟨w.heap.size + 1, 2, none⟩ (.int .i64 E)) (w.heap.size + 1 + 1) 34 #[.bool false, .slice none 0 0, .int .i64 0] from ((((((HR2.out.other (p := ⟨w.heap.size, 0, none⟩) (by simp <;> omega) (.bool false)).other (p := ⟨w.heap.size, 1, none⟩) (by simp <;> omega) (.slice A' n' c')).other (p := ⟨w.heap.size, 2, none⟩) (by simp <;> omega) (.int .i64 E')).other (p := ⟨w.heap.size + 1, 0, none⟩) (by simp <;> omega) (.bool true)).other (p := ⟨w.heap.size + 1, 1, none⟩) (by simp <;> omega) (.slice A n c)).other (p := ⟨w.heap.size + 1, 2, none⟩) (by simp <;> omega) (.int .i64 E)))
  have HB3 := Lib.hid (show Below w.heap.size w ((((((w2.setCell ⟨w.heap.size, 0, none⟩ (.bool false)).setCell ⟨w.heap.size, 1, none⟩ (.slice A' n' c')).setCell ⟨w.heap.size, 2, none⟩ (.int .i64 E')).setCell ⟨w.heap.size + 1, 0, none⟩ (.bool true)).setCell ⟨w.heap.size + 1, 1, none⟩ (.slice A n c)).setCell ⟨w.heap.size + 1, 2, none⟩ (.int .i64 E)) from ((((((HB2.out.setCell (p := ⟨w.heap.size, 0, none⟩) (Nat.le_refl _) _).setCell (p := ⟨w.heap.size, 1, none⟩) (Nat.le_refl _) _).setCell (p := ⟨w.heap.size, 2, none⟩) (Nat.le_refl _) _).setCell (p := ⟨w.heap.size + 1, 0, none⟩) (by simp) _).setCell (p := ⟨w.heap.size + 1, 1, none⟩) (by simp) _).setCell (p := ⟨w.heap.size + 1, 2, none⟩) (by simp) _))
  have HZ3 := Lib.hid (show w.heap.size + 1 + 1 + 1 ≤ ((((((w2.setCell ⟨w.heap.size, 0, none⟩ (.bool false)).setCell ⟨w.heap.size, 1, none⟩ (.slice A' n' c')).setCell ⟨w.heap.size, 2, none⟩ (.int .i64 E')).setCell ⟨w.heap.size + 1, 0, none⟩ (.bool true)).setCell ⟨w.heap.size + 1, 1, none⟩ (.slice A n c)).setCell ⟨w.heap.size + 1, 2, none⟩ (.int .i64 E)).heap.size by simpa [World.setCell] using HZ2.out)
  clear a0 a1 a2 b0 b1 b2 fa0 fa1 fa2 fb0 fb1 fb2
  generalize ((((((w2.setCell ⟨w.heap.size, 0, none⟩ (.bool false)).setCell ⟨w.heap.size, 1, none⟩ (.slice A' n' c')).setCell ⟨w.heap.size, 2, none⟩ (.int .i64 E')).setCell ⟨w.heap.size + 1, 0, none⟩ (.bool true)).setCell ⟨w.heap.size + 1, 1, none⟩ (.slice A n c)).setCell ⟨w.heap.size + 1, 2, none⟩ (.int .i64 E)) = w3 at *
  go_wp2_with fail
  go_loopw [7, 8, 11] (fun L cc p wr => ∃ (q b : Nat) (Ls : List Nat), q ≤ N ∧ b ≤ 1 ∧ cc = .int .i64 (b : Int) ∧ p = .int .i64 (fr + (q : Int)) ∧ Hid (Ls.length = q ∧ Digs 65536 Ls ∧ ofd 65536 Ls + dsum l E fr q = dsum l' E' fr q + 65536 ^ q * b) ∧ wr.ownsRow (w.heap.size + 1 + 1 + 1) 3 1 L q (ints Ls) ∧ Below w.heap.size w wr ∧ Blk wr w.heap.size 34 #[.bool false, .slice A' n' c', .int .i64 E'] ∧ Blk wr (w.heap.size + 1) 34 #[.bool true, .slice A n c, .int .i64 E] ∧ Blk wr (w.heap.size + 1 + 1) 34 #[.bool false, .slice none 0 0, .int .i64 0] ∧ w.heap.size + 1 + 1 + 1 ≤ wr.heap.size) (fun _ _ p _ => (tz - intOf p).toNat)
  case atStart => exact ⟨0, 0, [], Nat.zero_le _, by omega, rfl, by simp, Lib.hid ⟨rfl, Digs.nil _, by simp [ofd, dsum]⟩, World.ownsRow_nil _ _ _ _, HB3.out, HX3.out, HY3.out, HR3.out, HZ3.out⟩
  case round =>
    clear HX1 HY1 HR1 HB1 HZ1 HX2 HY2 HR2 HB2 HZ2 HX3 HY3 HR3 HB3 HZ3 HSz
    obtain ⟨q, b, Ls, hq, hcr, rfl, rfl, HL, hO, hB, hX, hY, hR, hZ⟩ := hrel
    have HOr := Lib.hid hO
    have HBr := Lib.hid hB
    have HXr := Lib.hid hX
    have HYr := Lib.hid hY
    have HRr := Lib.hid hR
    have HZr := Lib.hid hZ
    clear hO hB hX hY hR hZ
    by_cases hlt : q < N
    · have hq1 : q + 1 ≤ 4294967296 := by have := HNb.out; omega
      obtain ⟨P, hP⟩ : ∃ P, fr + (q : Int) = P := ⟨_, rfl⟩
      have hp1 : wrap64 (P + 1) = P + 1 := wrap64_in (by have := HFb.out; have := HNn.out; omega)
      have hlt2 : decide (P < tz) = true := by simp; have := HNn.out; omega
      have HPb := Lib.hid (show P.natAbs ≤ 1099511627776 by have := HFb.out; have := HNn.out; omega)
      have HPP := Lib.hid hP
      rw [hP]
      obtain ⟨x, hx⟩ : ∃ x, dat l' E' P = x := ⟨_, rfl⟩
      obtain ⟨y, hy⟩ : ∃ y, dat l E P = y := ⟨_, rfl⟩
      have hx6 : x < 65536 := by rw [← hx]; exact dat_lt HS.out.2 _ _
      have hy6 : y < 65536 := by rw [← hy]; exact dat_lt HS.out.1 _ _
      have HAtP := Lib.hid (fun W (hb : Below w.heap.size w W) => HAt.out W hb P HPb.out)
      have HAtP' := Lib.hid (fun W (hb : Below w.heap.size w W) => HAt'.out W hb P HPb.out)
      rw [hy] at HAtP
      rw [hx] at HAtP'
      have HXY := Lib.hid (And.intro hx hy)
      clear hx hy hP
      obtain ⟨a0, a1, a2⟩ := cells3 HXr.out
      obtain ⟨b0, b1, b2⟩ := cells3 HYr.out
      obtain ⟨U, hU⟩ : ∃ U : Int, (x : Int) - (y : Int) = U := ⟨_, rfl⟩
      obtain ⟨V, hV⟩ : ∃ V : Int, U - (b : Int) = V := ⟨_, rfl⟩
      have wU : IntKind.i64.wrap U = U := iwrap_in (by omega)
      have wV : IntKind.i64.wrap V = V := iwrap_in (by omega)
      have HUV := Lib.hid (show (x : Int) - (y : Int) - (b : Int) = V by omega)
      have HLT := Lib.hid (And.intro hlt hq)
      have HB01 := Lib.hid (And.intro hcr (And.intro hx6 hy6))
      clear hlt hcr hx6 hy6
      go_wp2_with fail
      refine wp_region_inv [83, 84, 85, 86, 87, 88, 89, 90, 91, 12] (fun d s W => (d 0 = true → s 83 = .agg #[.bool false, .slice A' n' c', .int .i64 E']) ∧ (d 1 = true → s 84 = .int .i64 P) ∧ (d 2 = true → s 85 = .int .i64 (x : Int)) ∧ (d 3 = true → s 86 = .agg #[.bool true, .slice A n c, .int .i64 E]) ∧ (d 4 = true → s 87 = .int .i64 P) ∧ (d 5 = true → s 88 = .int .i64 (y : Int)) ∧ (d 6 = true → s 89 = .int .i64 U) ∧ (d 7 = true → s 90 = .int .i64 (b : Int)) ∧ (d 8 = true → s 91 = .int .i64 V) ∧ (d 9 = true → s 12 = .int .i64 V) ∧ Below wr.heap.size wr W)
        rfl (by kernel_rfl) ?_ ?_ ?_
      · exact ⟨by simp, by simp, by simp, by simp, by simp, by simp, by simp, by simp, by simp, by simp, (Below.refl _ _).drew⟩
      · refine ⟨?_, ?_, ?_, ?_, ?_, ?_, ?_, ?_, ?_, ?_, trivial⟩
        all_goals
          intro d s W hJ hfr hd hdep
          simp only [List.mem_cons, forall_eq_or_imp, List.not_mem_nil, false_implies, implies_true, and_true, Region.binds] at hdep
          have f2 := hfr 2 (by decide)
          have f3 := hfr 3 (by decide)
          have f8 := hfr 8 (by decide)
          have f11 := hfr 11 (by decide)
          simp at f2 f3 f8 f11 hdep
          obtain ⟨h0, h1, h2, h3, h4, h5, h6, h7, h8, h9, hT⟩ := hJ
        · unfold OpSteps
          obtain ⟨p0, p1, p2⟩ := cells3 (HXr.out.below hT HXr.out.lt)
          simp [go_sem, evS, f2, p0, p1, p2]
          exact ⟨fun _ => by simp [sput], fun h => by simpa [sput] using h1 (by simpa [did] using h), fun h => by simpa [sput] using h2 (by simpa [did] using h), fun h => by simpa [sput] using h3 (by simpa [did] using h), fun h => by simpa [sput] using h4 (by simpa [did] using h), fun h => by simpa [sput] using h5 (by simpa [did] using h), fun h => by simpa [sput] using h6 (by simpa [did] using h), fun h => by simpa [sput] using h7 (by simpa [did] using h), fun h => by simpa [sput] using h8 (by simpa [did] using h), fun h => by simpa [sput] using h9 (by simpa [did] using h), hT⟩
        · unfold OpSteps
          simp [go_sem, evS, f11]
          exact ⟨fun h => by simpa [sput] using h0 (by simpa [did] using h), fun _ => by simp [sput], fun h => by simpa [sput] using h2 (by simpa [did] using h), fun h => by simpa [sput] using h3 (by simpa [did] using h), fun h => by simpa [sput] using h4 (by simpa [did] using h), fun h => by simpa [sput] using h5 (by simpa [did] using h), fun h => by simpa [sput] using h6 (by simpa [did] using h), fun h => by simpa [sput] using h7 (by simpa [did] using h), fun h => by simpa [sput] using h8 (by simpa [did] using h), fun h => by simpa [sput] using h9 (by simpa [did] using h), hT⟩
        · have fz0 := h0 (by simp [hdep])
          have fz1 := h1 (by simp [hdep])
          unfold OpSteps
          simp [go_sem, evS, fz0, fz1]
          refine (HAtP'.out W (below_nx HBr.out hT)).mono ?_
          rintro e W' ⟨rfl, hb⟩
          refine ⟨_, rfl, ?_⟩
          exact ⟨fun h => by simpa [sput] using h0 (by simpa [did] using h), fun h => by simpa [sput] using h1 (by simpa [did] using h), fun _ => by simp [sput], fun h => by simpa [sput] using h3 (by simpa [did] using h), fun h => by simpa [sput] using h4 (by simpa [did] using h), fun h => by simpa [sput] using h5 (by simpa [did] using h), fun h => by simpa [sput] using h6 (by simpa [did] using h), fun h => by simpa [sput] using h7 (by simpa [did] using h), fun h => by simpa [sput] using h8 (by simpa [did] using h), fun h => by simpa [sput] using h9 (by simpa [did] using h), below_nx hT hb⟩
        · unfold OpSteps
          obtain ⟨p0, p1, p2⟩ := cells3 (HYr.out.below hT HYr.out.lt)
          simp [go_sem, evS, f3, p0, p1, p2]
          exact ⟨fun h => by simpa [sput] using h0 (by simpa [did] using h), fun h => by simpa [sput] using h1 (by simpa [did] using h), fun h => by simpa [sput] using h2 (by simpa [did] using h), fun _ => by simp [sput], fun h => by simpa [sput] using h4 (by simpa [did] using h), fun h => by simpa [sput] using h5 (by simpa [did] using h), fun h => by simpa [sput] using h6 (by simpa [did] using h), fun h => by simpa [sput] using h7 (by simpa [did] using h), fun h => by simpa [sput] using h8 (by simpa [did] using h), fun h => by simpa [sput] using h9 (by simpa [did] using h), hT⟩
        · unfold OpSteps
          simp [go_sem, evS, f11]
          exact ⟨fun h => by simpa [sput] using h0 (by simpa [did] using h), fun h => by simpa [sput] using h1 (by simpa [did] using h), fun h => by simpa [sput] using h2 (by simpa [did] using h), fun h => by simpa [sput] using h3 (by simpa [did] using h), fun _ => by simp [sput], fun h => by simpa [sput] using h5 (by simpa [did] using h), fun h => by simpa [sput] using h6 (by simpa [did] using h), fun h => by simpa [sput] using h7 (by simpa [did] using h), fun h => by simpa [sput] using h8 (by simpa [did] using h), fun h => by simpa [sput] using h9 (by simpa [did] using h), hT⟩
        · have fz3 := h3 (by simp [hdep])
          have fz4 := h4 (by simp [hdep])
          unfold OpSteps
          simp [go_sem, evS, fz3, fz4]
          refine (HAtP.out W (below_nx HBr.out hT)).mono ?_
          rintro e W' ⟨rfl, hb⟩
          refine ⟨_, rfl, ?_⟩
          exact ⟨fun h => by simpa [sput] using h0 (by simpa [did] using h), fun h => by simpa [sput] using h1 (by simpa [did] using h), fun h => by simpa [sput] using h2 (by simpa [did] using h), fun h => by simpa [sput] using h3 (by simpa [did] using h), fun h => by simpa [sput] using h4 (by simpa [did] using h), fun _ => by simp [sput], fun h => by simpa [sput] using h6 (by simpa [did] using h), fun h => by simpa [sput] using h7 (by simpa [did] using h), fun h => by simpa [sput] using h8 (by simpa [did] using h), fun h => by simpa [sput] using h9 (by simpa [did] using h), below_nx hT hb⟩
        · have fz2 := h2 (by simp [hdep])
          have fz5 := h5 (by simp [hdep])
          unfold OpSteps
          simp [go_sem, evS, fz2, fz5, hU, wU]
          exact ⟨fun h => by simpa [sput] using h0 (by simpa [did] using h), fun h => by simpa [sput] using h1 (by simpa [did] using h), fun h => by simpa [sput] using h2 (by simpa [did] using h), fun h => by simpa [sput] using h3 (by simpa [did] using h), fun h => by simpa [sput] using h4 (by simpa [did] using h), fun h => by simpa [sput] using h5 (by simpa [did] using h), fun _ => by simp [sput], fun h => by simpa [sput] using h7 (by simpa [did] using h), fun h => by simpa [sput] using h8 (by simpa [did] using h), fun h => by simpa [sput] using h9 (by simpa [did] using h), hT⟩
        · unfold OpSteps
          simp [go_sem, evS, f8]
          exact ⟨fun h => by simpa [sput] using h0 (by simpa [did] using h), fun h => by simpa [sput] using h1 (by simpa [did] using h), fun h => by simpa [sput] using h2 (by simpa [did] using h), fun h => by simpa [sput] using h3 (by simpa [did] using h), fun h => by simpa [sput] using h4 (by simpa [did] using h), fun h => by simpa [sput] using h5 (by simpa [did] using h), fun h => by simpa [sput] using h6 (by simpa [did] using h), fun _ => by simp [sput], fun h => by simpa [sput] using h8 (by simpa [did] using h), fun h => by simpa [sput] using h9 (by simpa [did] using h), hT⟩
        · have fz6 := h6 (by simp [hdep])
          have fz7 := h7 (by simp [hdep])
          unfold OpSteps
          simp [go_sem, evS, fz6, fz7, hV, wV]
          exact ⟨fun h => by simpa [sput] using h0 (by simpa [did] using h), fun h => by simpa [sput] using h1 (by simpa [did] using h), fun h => by simpa [sput] using h2 (by simpa [did] using h), fun h => by simpa [sput] using h3 (by simpa [did] using h), fun h => by simpa [sput] using h4 (by simpa [did] using h), fun h => by simpa [sput] using h5 (by simpa [did] using h), fun h => by simpa [sput] using h6 (by simpa [did] using h), fun h => by simpa [sput] using h7 (by simpa [did] using h), fun _ => by simp [sput], fun h => by simpa [sput] using h9 (by simpa [did] using h), hT⟩
        · have fz8 := h8 (by simp [hdep])
          unfold OpSteps
          simp [go_sem, evS, fz8]
          exact ⟨fun h => by simpa [sput] using h0 (by simpa [did] using h), fun h => by simpa [sput] using h1 (by simpa [did] using h), fun h => by simpa [sput] using h2 (by simpa [did] using h), fun h => by simpa [sput] using h3 (by simpa [did] using h), fun h => by simpa [sput] using h4 (by simpa [did] using h), fun h => by simpa [sput] using h5 (by simpa [did] using h), fun h => by simpa [sput] using h6 (by simpa [did] using h), fun h => by simpa [sput] using h7 (by simpa [did] using h), fun h => by simpa [sput] using h8 (by simpa [did] using h), fun _ => by simp [sput], hT⟩
      intro d s W hJ hd
      obtain ⟨h0, h1, h2, h3, h4, h5, h6, h7, h8, h9, hT⟩ := hJ
      have hs12 := h9 (hd 9 (by decide))
      have hb : Below wr.heap.size wr W := hT
      clear h0 h1 h2 h3 h4 h5 h6 h7 h8 h9 hT hd
      simp [setAll, hs12]
      clear hs12
      generalize s 83 = s83
      generalize s 84 = s84
      generalize s 85 = s85
      generalize s 86 = s86
      generalize s 87 = s87
      generalize s 88 = s88
      generalize s 89 = s89
      generalize s 90 = s90
      generalize s 91 = s91
      have HX2 := Lib.hid (HXr.out.next hb)
      have HY2 := Lib.hid (HYr.out.next hb)
      have HR2 := Lib.hid (HRr.out.next hb)
      have HB2 := Lib.hid (below_nx HBr.out hb)
      have HZ2 := Lib.hid (Nat.le_trans HZr.out hb.size)
      have HO2 := Lib.hid (ownsRow_below HOr.out hb)
      clear hb a0 a1 a2 b0 b1 b2
      generalize W = w2 at *
      clear hU hV wU wV hlt2
      by_cases hbw : y + b ≤ x
      · obtain ⟨z, hz, hVz, hz6, ht⟩ := borrow_facts0 HUV.out hbw HB01.out.2.1
        have HVz := Lib.hid hVz
        have HStep := Lib.hid (show (Ls ++ [z]).length = q + 1 ∧ Digs 65536 (Ls ++ [z]) ∧ ofd 65536 (Ls ++ [z]) + dsum l E fr (q + 1) = dsum l' E' fr (q + 1) + 65536 ^ (q + 1) * 0 from by
          refine ⟨by simp [HL.out.1], Digs.append HL.out.2.1 (Digs.cons hz6 (Digs.nil _)), ?_⟩
          have := borrow_none (x := x) (y := y) HL.out.1 HL.out.2.2 hbw
          rw [hz] at this
          rw [dsum, dsum, HPP.out, HXY.out.1, HXY.out.2]
          exact this)
        clear hz hbw hVz hz6
        have HOaa := Lib.hid (HO2.out.alloc (.cells #[.int .i64 V] 3))
        go_wp2_with (at_builtin; refine wpList_append_own _ rfl _ _ 32 rfl (w.heap.size + 1 + 1 + 1) 3 i0 (.int .i64 0) 1 8 Try.underlying32 hi hz0 hz1 hz2 rfl (by decide) _ q (ints Ls) rfl HOaa.out ⟨w2.heap.size, 0, none⟩ 1 1 [.int .i64 V] rfl rfl ?c1a (by intro u hu; simp at hu; subst hu; rfl) ?c3a ?c4a ?c5a ?_)
        case c1a => exact cell_one_new _ _ _
        case c3a => unfold maxLen; have := HNb.out; omega
        case c4a => have := HNb.out; omega
        case c5a => (try simp); have := HZ2.out; omega
        intro v' w3 hown' hgrow _
        have hal := (Below.refl w2.heap.size w2).alloc (Nat.le_refl _) (.cells #[.int .i64 V] 3)
        have hgx : ∀ k, k < w.heap.size + 1 + 1 + 1 → w3.heap[k]? = w2.heap[k]? := fun k hk => (hgrow.block k (by simp; have := HZ2.out; omega) (fun e => by have := (HOaa.out.lt k e.symm).1; omega)).trans (hal.block k (by have := HZ2.out; omega))
        have HX3 := Lib.hid (show Blk w3 w.heap.size 34 _ from (hgx _ (by omega)).trans HX2.out)
        have HY3 := Lib.hid (show Blk w3 (w.heap.size + 1) 34 _ from (hgx _ (by omega)).trans HY2.out)
        have HR3 := Lib.hid (show Blk w3 (w.heap.size + 1 + 1) 34 _ from (hgx _ (by omega)).trans HR2.out)
        have HB3 := Lib.hid ((below_nx HB2.out hal).grown hgrow (by simp; have := HZ2.out; omega) (fun k hk => by have := (HOaa.out.lt k hk).1; omega))
        have HZ3 := Lib.hid (show w.heap.size + 1 + 1 + 1 ≤ w3.heap.size by have := hgrow.size; have := HZ2.out; simp at *; omega)
        have HO3 := Lib.hid (show w3.ownsRow (w.heap.size + 1 + 1 + 1) 3 1 v' (q + 1) (ints (Ls ++ [z])) by rw [ints_snoc, ← HVz.out]; exact hown')
        clear hown' hgrow hal hgx
        go_wp2_with fail
        go_roundw
        case rel => exact ⟨q + 1, 0, Ls ++ [z], by have := HLT.out.1; omega, by omega, rfl, congrArg (Value.int .i64) (by have := HPP.out; rw [hp1]; omega), HStep, HO3.out, HB3.out, HX3.out, HY3.out, HR3.out, HZ3.out⟩
        case measure => have := HPP.out; have := HLT.out.1; have := HNn.out; rw [hp1]; simp [intOf]; omega
      · obtain ⟨z, hz, hVz, wz, hz6, ht, hbw1, hbw2⟩ := borrow_facts1 HUV.out hbw HB01.out.2.1 HB01.out.2.2 HB01.out.1
        have HStep := Lib.hid (show (Ls ++ [z]).length = q + 1 ∧ Digs 65536 (Ls ++ [z]) ∧ ofd 65536 (Ls ++ [z]) + dsum l E fr (q + 1) = dsum l' E' fr (q + 1) + 65536 ^ (q + 1) * 1 from by
          refine ⟨by simp [HL.out.1], Digs.append HL.out.2.1 (Digs.cons hz6 (Digs.nil _)), ?_⟩
          have := borrow_one (x := x) (y := y) HL.out.1 HL.out.2.2 hbw1 hbw2
          rw [hz] at this
          rw [dsum, dsum, HPP.out, HXY.out.1, HXY.out.2]
          exact this)
        clear hz hbw hbw1 hbw2 hz6
        have HOab := Lib.hid (HO2.out.alloc (.cells #[.int .i64 (z : Int)] 3))
        go_wp2_with (at_builtin; refine wpList_append_own _ rfl _ _ 32 rfl (w.heap.size + 1 + 1 + 1) 3 i0 (.int .i64 0) 1 8 Try.underlying32 hi hz0 hz1 hz2 rfl (by decide) _ q (ints Ls) rfl HOab.out ⟨w2.heap.size, 0, none⟩ 1 1 [.int .i64 (z : Int)] rfl rfl ?c1b (by intro u hu; simp at hu; subst hu; rfl) ?c3b ?c4b ?c5b ?_)
        case c1b => exact cell_one_new _ _ _
        case c3b => unfold maxLen; have := HNb.out; omega
        case c4b => have := HNb.out; omega
        case c5b => (try simp); have := HZ2.out; omega
        intro v' w3 hown' hgrow _
        have hal := (Below.refl w2.heap.size w2).alloc (Nat.le_refl _) (.cells #[.int .i64 (z : Int)] 3)
        have hgx : ∀ k, k < w.heap.size + 1 + 1 + 1 → w3.heap[k]? = w2.heap[k]? := fun k hk => (hgrow.block k (by simp; have := HZ2.out; omega) (fun e => by have := (HOab.out.lt k e.symm).1; omega)).trans (hal.block k (by have := HZ2.out; omega))
        have HX3 := Lib.hid (show Blk w3 w.heap.size 34 _ from (hgx _ (by omega)).trans HX2.out)
        have HY3 := Lib.hid (show Blk w3 (w.heap.size + 1) 34 _ from (hgx _ (by omega)).trans HY2.out)
        have HR3 := Lib.hid (show Blk w3 (w.heap.size + 1 + 1) 34 _ from (hgx _ (by omega)).trans HR2.out)
        have HB3 := Lib.hid ((below_nx HB2.out hal).grown hgrow (by simp; have := HZ2.out; omega) (fun k hk => by have := (HOab.out.lt k hk).1; omega))
        have HZ3 := Lib.hid (show w.heap.size + 1 + 1 + 1 ≤ w3.heap.size by have := hgrow.size; have := HZ2.out; simp at *; omega)
        have HO3 := Lib.hid (show w3.ownsRow (w.heap.size + 1 + 1 + 1) 3 1 v' (q + 1) (ints (Ls ++ [z])) by rw [ints_snoc]; exact hown')
        clear hown' hgrow hal hgx
        go_wp2_with fail
        go_roundw
        case rel => exact ⟨q + 1, 1, Ls ++ [z], by have := HLT.out.1; omega, by omega, rfl, congrArg (Value.int .i64) (by have := HPP.out; rw [hp1]; omega), HStep, HO3.out, HB3.out, HX3.out, HY3.out, HR3.out, HZ3.out⟩
        case measure => have := HPP.out; have := HLT.out.1; have := HNn.out; rw [hp1]; simp [intOf]; omega
    · obtain rfl : q = N := by omega
      have hlt2 : decide (fr + (q : Int) < tz) = false := by simp; have := HNn.out; omega
      obtain ⟨a0, a1, a2⟩ := cells3 HXr.out
      have HR3 := HRr
      have HB3 := HBr
      have HEnd := Lib.hid (borrow_end HL.out.1 HL.out.2.1 HL.out.2.2 (Nat.le_of_lt HC.out))
      have hrd := own_rd (n := q) HOr.out HL.out.2.1
      obtain ⟨Am, cm, rfl, hRm, hcm⟩ := hrd
      have HRm := Lib.hid hRm
      have Hcm := Lib.hid hcm
      clear hRm hcm
      go_wp2_with fail
      refine (made_any false Am q cm _ fr _ HRm.out (by have := HNb.out; omega) (by have := HFb.out; omega) Hcm.out).mono ?_
      rintro e w4 ⟨ng4, A4, n4, c4, E4, L4, rfl, hR4, hN4, hd4, hb⟩
      have HR4 := Lib.hid (HR3.out.next hb)
      have f0 := HR4.out.frozen 0
      have f1 := HR4.out.frozen 1
      have f2 := HR4.out.frozen 2
      obtain ⟨r0, r1, r2⟩ := cells3 HR4.out
      have HB4 := Lib.hid (below_nx HB3.out hb)
      have HRd4 := Lib.hid hR4
      have HN4 := Lib.hid hN4
      have HD4 := Lib.hid (show rdy ng4 L4 E4 = rdy true l E + rdy false l' E' from hd4.trans (by rw [HV1.out, HV2.out, dy_add, rdy_sgd, HEnd.out]; congr 1; rw [Int.add_comm]; exact (sgd_sub false (Nat.le_of_lt HC.out)).symm))
      clear hb hR4 hN4 hd4 a0 a1 a2
      go_wp2_with fail
      obtain ⟨q0, q1, q2⟩ := cells3 (Blk.store3 HR4.out (.bool ng4) (.slice A4 n4 c4) (.int .i64 E4))
      exact bodyPost_ret (v := .agg #[.bool ng4, .slice A4 n4 c4, .int .i64 E4]) (by simp [results, Try.results17, go_sem, q0, q1, q2]) rfl (retR_done HR4.out HRd4.out HN4.out HD4.out HB4.out (by omega))

end Go.Proofs.Ytjjneiidggcfdaa
set_option linter.unusedVariables false
set_option linter.unusedSimpArgs false
namespace Go.Proofs.Ytjjneiidggcfdaa
open Go.RowKit

/-- A place is added to, and what is too much goes to the next one. -/
theorem put_step {M : List Nat} {j cr s x T : Nat} (hj : j < M.length) (hx : M[j] = x) (h : ofd 65536 M + 65536 ^ j * cr = T) :
    ofd 65536 (M.set j ((cr + s + x) % 65536)) + 65536 ^ (j + 1) * ((cr + s + x) / 65536) = T + 65536 ^ j * s := by
  have h1 := ofd_set 65536 M j ((cr + s + x) % 65536) hj
  rw [hx] at h1
  have h2 : (cr + s + x) % 65536 + 65536 * ((cr + s + x) / 65536) = cr + s + x := Nat.mod_add_div _ _
  generalize ofd 65536 (M.set j ((cr + s + x) % 65536)) = O at *
  generalize (cr + s + x) % 65536 = v1 at *
  generalize (cr + s + x) / 65536 = v2 at *
  rw [Nat.pow_succ]
  generalize 65536 ^ j = P at *
  have e1 : P * 65536 * v2 = P * (65536 * v2) := Nat.mul_assoc ..
  have e2 : P * (v1 + 65536 * v2) = P * v1 + P * (65536 * v2) := Nat.mul_add ..
  have e3 : P * (cr + s + x) = P * cr + P * s + P * x := by rw [Nat.mul_add, Nat.mul_add]
  rw [h2] at e2
  generalize P * 65536 * v2 = y1 at *
  generalize P * (65536 * v2) = y2 at *
  generalize P * v1 = y3 at *
  generalize P * (cr + s + x) = y4 at *
  generalize P * cr = y5 at *
  generalize P * s = y6 at *
  generalize P * x = y7 at *
  omega
theorem put_step0 {M : List Nat} {j cr x T V1 V2 : Nat} (hj : j < M.length) (hx : M[j] = x) (h : ofd 65536 M + 65536 ^ j * cr = T) (h1 : (cr + 0 + x) % 65536 = V1) (h2 : (cr + 0 + x) / 65536 = V2) :
    ofd 65536 (M.set j V1) + 65536 ^ (j + 1) * V2 = T := by
  have := put_step (s := 0) hj hx h
  rw [h1, h2] at this
  generalize 65536 ^ j = P at *
  generalize 65536 ^ (j + 1) = P1 at *
  simpa using this
/-- One digit times a number, so far. -/
def mulT (l l' : List Nat) (a k : Nat) : Nat := ofd 65536 (l.take a) * ofd 65536 l' + 65536 ^ a * (l.getD a 0 * ofd 65536 (l'.take k))
theorem mulT_zero (l l' : List Nat) (a : Nat) : mulT l l' a 0 = ofd 65536 (l.take a) * ofd 65536 l' := by simp [mulT, ofd]
theorem mulT_succ {l l' : List Nat} {a k : Nat} (hk : k < l'.length) : mulT l l' a k + 65536 ^ (a + k) * (l.getD a 0 * l'[k]) = mulT l l' a (k + 1) := by
  unfold mulT
  rw [ofd_take_succ _ _ _ hk, Nat.pow_add, Nat.mul_add, Nat.mul_add, Nat.add_assoc]
  congr 2
  rw [Nat.mul_assoc]
  congr 1
  rw [Nat.mul_left_comm]
theorem mulT_all {l l' : List Nat} {a : Nat} (ha : a < l.length) : mulT l l' a l'.length = ofd 65536 (l.take (a + 1)) * ofd 65536 l' := by
  unfold mulT
  rw [ofd_take_all _ _ _ (Nat.le_refl _), ofd_take_succ _ _ _ ha, Nat.add_mul]
  simp [List.getD, ha, Nat.mul_assoc]
theorem mulT_lt {l l' : List Nat} (h : Digs 65536 l) (h' : Digs 65536 l') {a : Nat} (ha : a < l.length) : ofd 65536 (l.take (a + 1)) * ofd 65536 l' < 65536 ^ (a + 1 + l'.length) := by
  have h1 := ofd_lt (h.take (a + 1))
  have h2 := ofd_lt h'
  rw [List.length_take, Nat.min_eq_left (by omega)] at h1
  rw [Nat.pow_add]
  exact Nat.mul_lt_mul'' h1 h2
/-- Where something is left, there is a place. -/
theorem mul_place {M l' : List Nat} {T K cr a : Nat} (h : ofd 65536 M + 65536 ^ K * cr = T) (hT : T < 65536 ^ (a + 1 + l'.length)) (hc : 0 < cr) : K ≤ a + l'.length := by
  rcases Nat.lt_or_ge (a + l'.length) K with hlt | hge
  · exfalso
    have h1 : 65536 ^ (a + 1 + l'.length) ≤ 65536 ^ K := Nat.pow_le_pow_right (by omega) (by omega)
    have h2 : 65536 ^ K * 1 ≤ 65536 ^ K * cr := Nat.mul_le_mul_left _ hc
    omega
  · exact hge
theorem put_facts {cr x y z : Nat} (hc : cr < 65536) (hx : x < 65536) (hy : y < 65536) (hz : z < 65536) : ∃ S U V V1 V2 : Nat, x * y = S ∧ (x : Int) * (y : Int) = (S : Int) ∧ (cr : Int) + (S : Int) = (U : Int) ∧ (U : Int) + (z : Int) = (V : Int) ∧ IntKind.i64.wrap (S : Int) = (S : Int) ∧ IntKind.i64.wrap (U : Int) = (U : Int) ∧ IntKind.i64.wrap (V : Int) = (V : Int) ∧
    (V : Int) % 65536 = (V1 : Int) ∧ (V : Int) / 65536 = (V2 : Int) ∧ (V : Int).tmod 65536 = (V1 : Int) ∧ (V : Int).tdiv 65536 = (V2 : Int) ∧ V2 < 65536 ∧ V1 < 65536 ∧ (cr + S + z) % 65536 = V1 ∧ (cr + S + z) / 65536 = V2 := by
  have hm : x * y ≤ 65535 * 65535 := Nat.mul_le_mul (by omega) (by omega)
  have he : (x : Int) * (y : Int) = ((x * y : Nat) : Int) := by simp
  obtain ⟨S, hS⟩ : ∃ S, x * y = S := ⟨_, rfl⟩
  rw [hS] at hm he
  have w : ∀ n : Nat, n ≤ 9223372036854775807 → IntKind.i64.wrap (n : Int) = (n : Int) := fun n h => IntWalk.i64_in _ (by omega)
  exact ⟨S, cr + S, cr + S + z, (cr + S + z) % 65536, (cr + S + z) / 65536, hS, he, by omega, by omega, w _ (by omega), w _ (by omega), w _ (by omega), by omega, by omega, by rw [Int.tmod_eq_emod_of_nonneg (by omega)]; omega, by rw [Int.tdiv_eq_ediv_of_nonneg (by omega)]; omega, by omega, by omega, rfl, rfl⟩
theorem put_facts0 {cr z : Nat} (hc : cr < 65536) (hz : z < 65536) : ∃ V V1 V2 : Nat, (cr : Int) + (z : Int) = (V : Int) ∧ IntKind.i64.wrap (V : Int) = (V : Int) ∧ wrap64 (V : Int) = (V : Int) ∧ wrap64 (V2 : Int) = (V2 : Int) ∧
    (V : Int) % 65536 = (V1 : Int) ∧ (V : Int) / 65536 = (V2 : Int) ∧ (V : Int).tmod 65536 = (V1 : Int) ∧ (V : Int).tdiv 65536 = (V2 : Int) ∧ V2 < 65536 ∧ V1 < 65536 ∧ (cr + 0 + z) % 65536 = V1 ∧ (cr + 0 + z) / 65536 = V2 := by
  have w : ∀ n : Nat, n ≤ 9223372036854775807 → IntKind.i64.wrap (n : Int) = (n : Int) := fun n h => IntWalk.i64_in _ (by omega)
  have w' : ∀ n : Nat, n ≤ 9223372036854775807 → wrap64 (n : Int) = (n : Int) := fun n h => by unfold wrap64; omega
  exact ⟨cr + z, (cr + z) % 65536, (cr + z) / 65536, by omega, w _ (by omega), w' _ (by omega), w' _ (by omega), by omega, by omega, by rw [Int.tmod_eq_emod_of_nonneg (by omega)]; omega, by rw [Int.tdiv_eq_ediv_of_nonneg (by omega)]; omega, by omega, by omega, rfl, rfl⟩
theorem dy_mulv (p q : Bool) (l l' M : List Nat) (E E' : Int) (h : ofd 65536 M = ofd 65536 l * ofd 65536 l') : rdy (p != q) M (E + E') = rdy p l E * rdy q l' E' := by
  rw [rdy_sgd, rdy_sgd, rdy_sgd, dy_mul, h, sgd_mul]
  congr 1; omega
end Go.Proofs.Ytjjneiidggcfdaa
set_option linter.unusedVariables false
set_option linter.unusedSimpArgs false
set_option linter.unnecessarySimpa false
namespace Go.Proofs.Ytjjneiidggcfdaa
open Go.RowKit
attribute [local go_sem ↓] Go.wp_at_zero Go.wp_at_succ

set_option maxRecDepth 100000 in
set_option maxHeartbeats 4000000 in
theorem rmul_any (neg : Bool) (A : Option Addr) (n c : Nat) (l : List Nat) (E : Int) (neg' : Bool) (A' : Option Addr) (n' c' : Nat) (l' : List Nat) (E' : Int) (w : World) (h : Rd w A n c l) (h' : Rd w A' n' c' l') (hn : n ≤ 536870912) (hn' : n' ≤ 536870912) (hE : E.natAbs ≤ 1073741824) (hE' : E'.natAbs ≤ 1073741824) :
    Calls Try.prog 19 #[.agg #[.bool neg, .slice A n c, .int .i64 E], .agg #[.bool neg', .slice A' n' c', .int .i64 E']] w (RetR (rdy neg l E * rdy neg' l' E') w) := by
  obtain ⟨mm, hmm⟩ : ∃ mm, n + n' = mm := ⟨_, rfl⟩
  obtain ⟨m, hm⟩ : ∃ m, mm + 1 = m := ⟨_, rfl⟩
  have en : (n : Int) + (n' : Int) = (mm : Int) := by omega
  have en2 : (mm : Int) + 1 = (m : Int) := by omega
  have ew : IntKind.i64.wrap (mm : Int) = (mm : Int) := IntWalk.i64_in _ (by omega)
  have ew2 : wrap64 (m : Int) = (m : Int) := wrap64_in (by omega)
  have hmk := fun V => irun_make m (by omega) V
  have H := Lib.hid h
  have H' := Lib.hid h'
  have HM0 := Lib.hid (show n + n' + 1 = m ∧ m ≤ 1099511627776 by omega)
  have HE := Lib.hid (show IntKind.i64.wrap (E + E') = E + E' ∧ (E + E').natAbs ≤ 1000000000000000000 from ⟨iwrap_in (by omega), by omega⟩)
  have hnl := h.1
  have hnl' := h'.1
  have HNL := Lib.hid (And.intro hnl hnl')
  have HX := Lib.hid ((((Blk.new w 34 #[.bool neg, .slice A n c, .int .i64 E]).alloc (.cells #[.bool neg', .slice A' n' c', .int .i64 E'] 34)).alloc (.cells #[.bool false, .slice none 0 0, .int .i64 0] 34)).alloc (.cells (ints (List.replicate m 0)).toArray 3))
  have HY := Lib.hid (((Blk.new_ (w.alloc (.cells #[.bool neg, .slice A n c, .int .i64 E] 34)) 34 #[.bool neg', .slice A' n' c', .int .i64 E'] (w.heap.size + 1) (by simp)).alloc (.cells #[.bool false, .slice none 0 0, .int .i64 0] 34)).alloc (.cells (ints (List.replicate m 0)).toArray 3))
  have HR := Lib.hid ((Blk.new_ ((w.alloc (.cells #[.bool neg, .slice A n c, .int .i64 E] 34)).alloc (.cells #[.bool neg', .slice A' n' c', .int .i64 E'] 34)) 34 #[.bool false, .slice none 0 0, .int .i64 0] (w.heap.size + 1 + 1) (by simp)).alloc (.cells (ints (List.replicate m 0)).toArray 3))
  have HL := Lib.hid (Blk.new_ (((w.alloc (.cells #[.bool neg, .slice A n c, .int .i64 E] 34)).alloc (.cells #[.bool neg', .slice A' n' c', .int .i64 E'] 34)).alloc (.cells #[.bool false, .slice none 0 0, .int .i64 0] 34)) 3 (ints (List.replicate m 0)).toArray (w.heap.size + 1 + 1 + 1) (by simp))
  have HBl := Lib.hid (((((Below.refl w.heap.size w).alloc (Nat.le_refl _) (.cells #[.bool neg, .slice A n c, .int .i64 E] 34)).alloc (by simp) (.cells #[.bool neg', .slice A' n' c', .int .i64 E'] 34)).alloc (by simp <;> omega) (.cells #[.bool false, .slice none 0 0, .int .i64 0] 34)).alloc (by simp <;> omega) (.cells (ints (List.replicate m 0)).toArray 3))
  clear h h' hn hn' hE hE' hmm hm hnl hnl'
  go_enter Try.func19, Try.ntmps19
  go_wp2_with fail
  go_loopw [6] (fun i wr => ∃ (a : Nat) (M : List Nat), a ≤ n ∧ i = .int .i64 (a : Int) ∧ Hid (M.length = m ∧ Digs 65536 M ∧ ofd 65536 M = ofd 65536 (l.take a) * ofd 65536 l') ∧ Hid (Blk wr (w.heap.size + 1 + 1 + 1) 3 (ints M).toArray ∧ Blk wr w.heap.size 34 #[.bool neg, .slice A n c, .int .i64 E] ∧ Blk wr (w.heap.size + 1) 34 #[.bool neg', .slice A' n' c', .int .i64 E'] ∧ Blk wr (w.heap.size + 1 + 1) 34 #[.bool false, .slice none 0 0, .int .i64 0] ∧ Below w.heap.size w wr)) (fun i _ => n - (intOf i).toNat)
  case atStart => exact ⟨0, List.replicate m 0, Nat.zero_le _, rfl, Lib.hid ⟨by simp, Digs.replicate (by omega) _, by simp [ofd_replicate, ofd]⟩, Lib.hid ⟨HL.out, HX.out, HY.out, HR.out, HBl.out⟩⟩
  case round =>
    obtain ⟨a, M, han, rfl, HM, HS⟩ := hrel
    obtain ⟨wo, rfl⟩ : ∃ wo : World, wo = wr := ⟨_, rfl⟩
    obtain ⟨x0, x1, x2⟩ := cells3 HS.out.2.1
    obtain ⟨y0, y1, y2⟩ := cells3 HS.out.2.2.1
    by_cases hlt : a < n
    · have hlt1 : (a : Int) < (n : Int) := by omega
      have HLT := Lib.hid (And.intro hlt han)
      go_wp2_with fail
      go_loopw [7, 8] (fun cc kk wr => ∃ (k cr : Nat) (M : List Nat), k ≤ n' ∧ cc = .int .i64 (cr : Int) ∧ kk = .int .i64 (k : Int) ∧ Hid (cr < 65536 ∧ M.length = m ∧ Digs 65536 M ∧ ofd 65536 M + 65536 ^ (a + k) * cr = mulT l l' a k) ∧ Hid (Blk wr (w.heap.size + 1 + 1 + 1) 3 (ints M).toArray ∧ Blk wr w.heap.size 34 #[.bool neg, .slice A n c, .int .i64 E] ∧ Blk wr (w.heap.size + 1) 34 #[.bool neg', .slice A' n' c', .int .i64 E'] ∧ Blk wr (w.heap.size + 1 + 1) 34 #[.bool false, .slice none 0 0, .int .i64 0] ∧ Below w.heap.size w wr)) (fun _ k _ => n' - (intOf k).toNat)
      case atStart => exact ⟨0, 0, M, Nat.zero_le _, rfl, rfl, Lib.hid ⟨by omega, HM.out.1, HM.out.2.1, by rw [Nat.mul_zero, mulT_zero]; exact HM.out.2.2⟩, HS⟩
      case round =>
        clear x0 x1 x2 y0 y1 y2 HS HM
        obtain ⟨k, cr, M2, hk, rfl, rfl, HM, HS⟩ := hrel
        obtain ⟨x0, x1, x2⟩ := cells3 HS.out.2.1
        obtain ⟨y0, y1, y2⟩ := cells3 HS.out.2.2.1
        by_cases hlt2 : k < n'
        · have hlt3 : (k : Int) < (n' : Int) := by omega
          have hal : a < l.length := by rw [← HNL.out.1]; exact hlt
          have hkl : k < l'.length := by rw [← HNL.out.2]; exact hlt2
          obtain ⟨K, hK⟩ : ∃ K, a + k = K := ⟨_, rfl⟩
          have eK : (a : Int) + (k : Int) = (K : Int) := by omega
          have eKw : IntKind.i64.wrap (K : Int) = (K : Int) := IntWalk.i64_in _ (by have := HM0.out; omega)
          have HW1 := Lib.hid (show wrap64 ((k : Int) + 1) = (k : Int) + 1 from wrap64_in (by have := HM0.out; omega))
          have hKm : K < m := by have := HM0.out; omega
          have hKm1 : (K : Int) < (m : Int) := by omega
          have hKM : K < M2.length := by rw [HM.out.2.1]; exact hKm
          obtain ⟨b, o, rfl, _, hc0⟩ := H.out.2.2.1.at_ (ints_get l a hal)
          obtain ⟨b', o', rfl, _, hc0'⟩ := H'.out.2.2.1.at_ (ints_get l' k hkl)
          have hc := cell_below hc0 HS.out.2.2.2.2
          have hc' := cell_below hc0' HS.out.2.2.2.2
          have z0 := HS.out.1.cell K
          rw [ints_arr M2 K hKM] at z0
          have z1 := HS.out.1.frozen K
          have hx6 := H.out.2.2.2.1.get a hal
          have hy6 := H'.out.2.2.2.1.get k hkl
          have hz6 := HM.out.2.2.1.get K hKM
          have hstep := mulT_succ (l := l) (a := a) hkl
          rw [show l.getD a 0 = l[a] by simp [List.getD, hal]] at hstep
          obtain ⟨z, hz⟩ : ∃ z, M2[K] = z := ⟨_, rfl⟩
          have h0 : ofd 65536 M2 + 65536 ^ K * cr = mulT l l' a k := by rw [← hK]; exact HM.out.2.2.2
          have hput := fun s => put_step (s := s) hKM hz h0
          rw [hz] at z0 hz6
          generalize l[a] = x at *
          generalize l'[k] = y at *
          obtain ⟨S, U, V, V1, V2, hS, eS, eU, eV, wS, wU, wV, m1, m2, m3, m4, hV2, hV1, hq1, hq2⟩ := put_facts HM.out.1 hx6 hy6 hz6
          have HStep := Lib.hid (show ofd 65536 (M2.set K V1) + 65536 ^ (a + (k + 1)) * V2 = mulT l l' a (k + 1) by
            have := hput S
            rw [hq1, hq2] at this
            rw [← hstep, hK, hS, ← this, show a + (k + 1) = K + 1 by omega])
          have m5 : wrap64 (V2 : Int) = (V2 : Int) := wrap64_in (by omega)
          have HV := Lib.hid (And.intro hV1 hV2)
          have hs1 := HS.out.1.set_ K (.int .i64 (V1 : Int))
          rw [ints_set] at hs1
          have HS1 := Lib.hid hs1
          have HLT2 := Lib.hid (And.intro hlt2 hk)
          clear hs1 hV1 hV2 hq1 hq2 hput hstep hz hx6 hy6 hz6 hc0 hc0' hal hkl hS hKM hK hk han h0
          go_wp2_with fail
          go_region
          go_wp2_with fail
          go_roundw
          case rel => exact ⟨k + 1, V2, M2.set K V1, by have := HLT2.out.1; omega, by rw [m5], by rw [HW1.out]; rfl, Lib.hid ⟨HV.out.2, by rw [List.length_set]; exact HM.out.2.1, HM.out.2.2.1.set K HV.out.1, HStep.out⟩, Lib.hid ⟨HS1.out.drew, (HS.out.2.1.other (by simp <;> omega) _).drew, (HS.out.2.2.1.other (by simp <;> omega) _).drew, (HS.out.2.2.2.1.other (by simp) _).drew, (HS.out.2.2.2.2.setCell (by simp <;> omega) _).drew⟩⟩
          case measure => have := HLT2.out.1; rw [HW1.out]; simp [intOf]; omega
        · obtain rfl : n' = k := by omega
          have hlt3 : ¬ (n' : Int) < (n' : Int) := by omega
          obtain ⟨K0, hK0⟩ : ∃ K0, a + n' = K0 := ⟨_, rfl⟩
          have eK : (a : Int) + (n' : Int) = (K0 : Int) := by omega
          have eKw : IntKind.i64.wrap (K0 : Int) = (K0 : Int) := IntWalk.i64_in _ (by have := HM0.out; omega)
          have eKw2 : wrap64 (K0 : Int) = (K0 : Int) := wrap64_in (by have := HM0.out; omega)
          have hal : a < l.length := by rw [← HNL.out.1]; exact hlt
          have HT := Lib.hid (show ofd 65536 M2 + 65536 ^ K0 * cr = ofd 65536 (l.take (a + 1)) * ofd 65536 l' by rw [← mulT_all hal, ← HNL.out.2, ← hK0]; exact HM.out.2.2.2)
          have HT2 := Lib.hid (show ofd 65536 (l.take (a + 1)) * ofd 65536 l' < 65536 ^ (a + 1 + l'.length) from mulT_lt H.out.2.2.2.1 H'.out.2.2.2.1 hal)
          have HK0 := Lib.hid hK0
          clear hK0 hal
          go_wp2_with fail
          obtain ⟨wp, rfl⟩ : ∃ wp : World, wp = wr := ⟨_, rfl⟩
          go_loopw [7, 9] (fun cc kk wr => ∃ (K cr : Nat) (M : List Nat), K0 ≤ K ∧ K ≤ K0 + 1 ∧ cc = .int .i64 (cr : Int) ∧ kk = .int .i64 (K : Int) ∧ Hid (cr < 65536 ∧ M.length = m ∧ Digs 65536 M ∧ ofd 65536 M + 65536 ^ K * cr = ofd 65536 (l.take (a + 1)) * ofd 65536 l') ∧ Hid (Blk wr (w.heap.size + 1 + 1 + 1) 3 (ints M).toArray ∧ Blk wr w.heap.size 34 #[.bool neg, .slice A n c, .int .i64 E] ∧ Blk wr (w.heap.size + 1) 34 #[.bool neg', .slice A' n' c', .int .i64 E'] ∧ Blk wr (w.heap.size + 1 + 1) 34 #[.bool false, .slice none 0 0, .int .i64 0] ∧ Below w.heap.size w wr)) (fun _ k _ => K0 + 1 - (intOf k).toNat)
          case atStart => exact ⟨K0, cr, M2, Nat.le_refl _, by omega, rfl, rfl, Lib.hid ⟨HM.out.1, HM.out.2.1, HM.out.2.2.1, HT.out⟩, HS⟩
          case round =>
            clear x0 x1 x2 y0 y1 y2 HS HM HT
            obtain ⟨K, cr, M3, hKa, hKb, rfl, rfl, HM, HS⟩ := hrel
            obtain ⟨x0, x1, x2⟩ := cells3 HS.out.2.1
            obtain ⟨y0, y1, y2⟩ := cells3 HS.out.2.2.1
            by_cases hc0 : cr = 0
            · subst hc0
              have hz0 : ¬ (0 : Int) < ((0 : Nat) : Int) := by omega
              have HW0 := Lib.hid (show wrap64 ((a : Int) + 1) = (a : Int) + 1 from wrap64_in (by have := HM0.out; omega))
              have HD := Lib.hid (show ofd 65536 M3 = ofd 65536 (l.take (a + 1)) * ofd 65536 l' by have := HM.out.2.2.2; rw [Nat.mul_zero] at this; exact this)
              go_wp2_with fail
              go_roundw
              case rel => exact ⟨a + 1, by have := HLT.out.1; omega, by rw [HW0.out]; rfl, M3, Lib.hid ⟨HM.out.2.1, HM.out.2.2.1, HD.out⟩, HS⟩
              case measure => have := HLT.out.1; rw [HW0.out]; simp [intOf]; omega
            · have hz0 : 0 < cr := by omega
              have hz1 : (0 : Int) < (cr : Int) := by omega
              have hpl := mul_place HM.out.2.2.2 HT2.out (by omega)
              rw [← HNL.out.2, HK0.out] at hpl
              have hKm : K < m := by have := HM0.out; have := HK0.out; omega
              have hKm1 : (K : Int) < (m : Int) := by omega
              have hKM : K < M3.length := by rw [HM.out.2.1]; exact hKm
              have z0 := HS.out.1.cell K
              rw [ints_arr M3 K hKM] at z0
              have z1 := HS.out.1.frozen K
              have hz6 := HM.out.2.2.1.get K hKM
              obtain ⟨z, hz⟩ : ∃ z, M3[K] = z := ⟨_, rfl⟩
              rw [hz] at z0 hz6
              obtain ⟨V, V1, V2, eV, wV, wV2, m5, m1, m2, m3, m4, hV2, hV1, hq1, hq2⟩ := put_facts0 HM.out.1 hz6
              have HW3 := Lib.hid (show wrap64 ((K : Int) + 1) = (K : Int) + 1 from wrap64_in (by have := HM0.out; omega))
              have HStep := Lib.hid (put_step0 hKM hz HM.out.2.2.2 hq1 hq2)
              have HV := Lib.hid (And.intro hV1 hV2)
              have hs1 := HS.out.1.set_ K (.int .i64 (V1 : Int))
              rw [ints_set] at hs1
              have HS1 := Lib.hid hs1
              have HPL := Lib.hid (And.intro hpl hKa)
              clear hs1 hV1 hV2 hq1 hq2 hz hz6 hKM hKa hKb hpl hc0
              go_wp2_with fail
              go_roundw
              case rel => exact ⟨K + 1, V2, M3.set K V1, by have := HPL.out; omega, by have := HPL.out; omega, by rw [m5], by rw [HW3.out]; rfl, Lib.hid ⟨HV.out.2, by rw [List.length_set]; exact HM.out.2.1, HM.out.2.2.1.set K HV.out.1, HStep.out⟩, Lib.hid ⟨HS1.out, HS.out.2.1.other (by simp <;> omega) _, HS.out.2.2.1.other (by simp <;> omega) _, HS.out.2.2.2.1.other (by simp) _, HS.out.2.2.2.2.setCell (by simp <;> omega) _⟩⟩
              case measure => have := HPL.out; rw [HW3.out]; simp [intOf]; omega
    · obtain rfl : a = n := by omega
      have hlt1 : ¬ (a : Int) < (a : Int) := by omega
      have hwE := HE.out.1
      have hlm : m = M.length := HM.out.1.symm
      have HRm := Lib.hid (show Rd wo (some ⟨w.heap.size + 1 + 1 + 1, 0, none⟩) m m M from ⟨hlm, Nat.le_refl _, .inr ⟨w.heap.size + 1 + 1 + 1, 0, rfl, fun i v hi => by
        rw [Nat.zero_add, HS.out.1.cell i, List.getElem?_toArray]; exact hi⟩, HM.out.2.1, fun b y e _ => by
        injection e with e; injection e with e1 e2
        subst e1
        exact IntB.of_blk HS.out.1⟩)
      have HVal := Lib.hid (show rdy (neg != neg') M (E + E') = rdy neg l E * rdy neg' l' E' from dy_mulv neg neg' l l' M E E' (by have := HM.out.2.2; rw [HNL.out.1, ofd_take_all _ _ _ (Nat.le_refl _)] at this; exact this))
      have HBd := Lib.hid (And.intro HM0.out.2 HE.out.2)
      have HR1 := Lib.hid HS.out.2.2.2.1
      have HB1 := Lib.hid HS.out.2.2.2.2
      clear hlm HS
      go_wp2_with fail
      refine (made_any (!(neg == neg')) _ m m M (E + E') wo HRm.out HBd.out.1 HBd.out.2 (by have := HBd.out.1; omega)).mono ?_
      rintro e w4 ⟨ng4, A4, n4, c4, E4, L4, rfl, hR4, hN4, hd4, hb⟩
      have HR4 := Lib.hid (HR1.out.next hb)
      have f0 := HR4.out.frozen 0
      have f1 := HR4.out.frozen 1
      have f2 := HR4.out.frozen 2
      obtain ⟨r0, r1, r2⟩ := cells3 HR4.out
      have HB4 := Lib.hid (below_nx HB1.out hb)
      have HRd4 := Lib.hid hR4
      have HN4 := Lib.hid hN4
      have HD4 := Lib.hid (show rdy ng4 L4 E4 = rdy neg l E * rdy neg' l' E' from hd4.trans HVal.out)
      clear hb hR4 hN4 hd4 x0 x1 x2 y0 y1 y2
      go_wp2_with fail
      obtain ⟨q0, q1, q2⟩ := cells3 (Blk.store3 HR4.out (.bool ng4) (.slice A4 n4 c4) (.int .i64 E4))
      exact bodyPost_ret (v := .agg #[.bool ng4, .slice A4 n4 c4, .int .i64 E4]) (by simp [results, Try.results19, go_sem, q0, q1, q2]) rfl (retR_done HR4.out HRd4.out HN4.out HD4.out HB4.out (by omega))
end Go.Proofs.Ytjjneiidggcfdaa
set_option linter.unusedVariables false
namespace Go.Proofs.Ytjjneiidggcfdaa
open Go.RowKit
attribute [local go_sem ↓] Go.wp_at_zero Go.wp_at_succ

set_option maxHeartbeats 1000000 in
theorem rint_any (k : Int) (w : World) (h0 : -9223372036854775808 ≤ k) (h1 : k ≤ 9223372036854775807) :
    Calls Try.prog 18 #[.int .i64 k] w (RetR (dy k 0) w) := by
  obtain ⟨D, hD⟩ : ∃ D, dy k 0 = D := ⟨_, rfl⟩
  rw [hD]
  by_cases hk : k < 0
  · obtain ⟨m, hm⟩ : ∃ m : Nat, k = -(m : Int) := ⟨k.natAbs, by omega⟩
    have hDm : dy (if true = true then -(m : Int) else (m : Int)) 0 = D := by rw [← hD, hm]; rfl
    have hm1 : m < 18446744073709551616 := by omega
    have hmp : 1 ≤ m := by omega
    have hmq : m ≤ 9223372036854775808 := by omega
    have HD := Lib.hid (show ∀ W, Calls Try.prog 44 #[.bool true, .int .u64 (m : Int)] W (RetR D W) from fun W => by rw [← hDm]; exact whole_any true m W hm1)
    subst hm
    clear hD hDm hk h0 h1
    have e0 : (-(m : Int) < 0) := by omega
    have e1 : IntKind.i64.wrap (-(-(m : Int) + 1)) = ((m - 1 : Nat) : Int) := by rw [IntWalk.i64_in _ (by omega)]; omega
    go_enter Try.func18, Try.ntmps18
    go_wp2_with fail
    rw [show ((m - 1 : Nat) : Int) + 1 = (m : Int) by omega]
    refine (HD.out _).mono ?_
    rintro e w2 ⟨ng', A', n', c', E, L', rfl, hR', hN, hd, hb⟩
    have hB2 := (Blk.new w 34 #[.bool false, .slice none 0 0, .int .i64 0]).next hb
    have HB2 := Lib.hid hB2
    have f0 := hB2.frozen 0
    have f1 := hB2.frozen 1
    have f2 := hB2.frozen 2
    obtain ⟨r0, r1, r2⟩ := cells3 hB2
    have HR := Lib.hid hR'
    have HN := Lib.hid hN
    have HDd := Lib.hid hd
    have HBl := Lib.hid (((Below.refl w.heap.size w).alloc (Nat.le_refl _) (.cells #[.bool false, .slice none 0 0, .int .i64 0] 34)).trans (hb.mono (by simp)))
    clear hb hB2 hR' hN hd
    go_wp2_with fail
    obtain ⟨q0, q1, q2⟩ := cells3 (Blk.store3 HB2.out (.bool ng') (.slice A' n' c') (.int .i64 E))
    exact bodyPost_ret (v := .agg #[.bool ng', .slice A' n' c', .int .i64 E]) (by simp [results, Try.results18, go_sem, q0, q1, q2]) rfl
      ⟨ng', A', n', c', E, L', rfl, Rd.store3 HR.out HN.out HB2.out _ _ _, HN.out, HDd.out, ((HBl.out.setCell (p := ⟨w.heap.size, 0, none⟩) (Nat.le_refl _) _).setCell (p := ⟨w.heap.size, 1, none⟩) (Nat.le_refl _) _).setCell (p := ⟨w.heap.size, 2, none⟩) (Nat.le_refl _) _⟩
  · obtain ⟨m, hm⟩ : ∃ m : Nat, k = (m : Int) := ⟨k.natAbs, by omega⟩
    have hDm : dy (if false = true then -(m : Int) else (m : Int)) 0 = D := by rw [← hD, hm]; rfl
    have hm1 : m < 18446744073709551616 := by omega
    have hmq : m ≤ 9223372036854775807 := by omega
    have HD := Lib.hid (show ∀ W, Calls Try.prog 44 #[.bool false, .int .u64 (m : Int)] W (RetR D W) from fun W => by rw [← hDm]; exact whole_any false m W hm1)
    subst hm
    clear hD hDm hk h0 h1
    have e0 : ¬ ((m : Int) < 0) := by omega
    go_enter Try.func18, Try.ntmps18
    go_wp2_with fail
    refine (HD.out _).mono ?_
    rintro e w2 ⟨ng', A', n', c', E, L', rfl, hR', hN, hd, hb⟩
    have hB2 := (Blk.new w 34 #[.bool false, .slice none 0 0, .int .i64 0]).next hb
    have HB2 := Lib.hid hB2
    have f0 := hB2.frozen 0
    have f1 := hB2.frozen 1
    have f2 := hB2.frozen 2
    obtain ⟨r0, r1, r2⟩ := cells3 hB2
    have HR := Lib.hid hR'
    have HN := Lib.hid hN
    have HDd := Lib.hid hd
    have HBl := Lib.hid (((Below.refl w.heap.size w).alloc (Nat.le_refl _) (.cells #[.bool false, .slice none 0 0, .int .i64 0] 34)).trans (hb.mono (by simp)))
    clear hb hB2 hR' hN hd
    go_wp2_with fail
    obtain ⟨q0, q1, q2⟩ := cells3 (Blk.store3 HB2.out (.bool ng') (.slice A' n' c') (.int .i64 E))
    exact bodyPost_ret (v := .agg #[.bool ng', .slice A' n' c', .int .i64 E]) (by simp [results, Try.results18, go_sem, q0, q1, q2]) rfl
      ⟨ng', A', n', c', E, L', rfl, Rd.store3 HR.out HN.out HB2.out _ _ _, HN.out, HDd.out, ((HBl.out.setCell (p := ⟨w.heap.size, 0, none⟩) (Nat.le_refl _) _).setCell (p := ⟨w.heap.size, 1, none⟩) (Nat.le_refl _) _).setCell (p := ⟨w.heap.size, 2, none⟩) (Nat.le_refl _) _⟩
end Go.Proofs.Ytjjneiidggcfdaa
set_option linter.unusedVariables false
set_option linter.unusedSimpArgs false
set_option linter.unnecessarySimpa false
namespace Go.Proofs.Ytjjneiidggcfdaa
open Go.RowKit
attribute [local go_sem ↓] Go.wp_at_zero Go.wp_at_succ

theorem neat_nil {neg : Bool} {l : List Nat} {E : Int} (h : Neat neg l E) (hn : neg = true) : l ≠ [] := by
  rcases h with ⟨_, h, _⟩ | ⟨h, _⟩
  · rw [hn] at h; cases h
  · exact h
theorem rd_zero {w : World} {A : Option Addr} {n c : Nat} {l : List Nat} (h : Rd w A n c l) : n = 0 ↔ l = [] := by
  rw [h.1]; exact List.length_eq_zero_iff
theorem radd_any (p : Bool) (A : Option Addr) (n c : Nat) (l : List Nat) (E : Int) (p' : Bool) (A' : Option Addr) (n' c' : Nat) (l' : List Nat) (E' : Int) (w : World) (h : Rd w A n c l) (h' : Rd w A' n' c' l') (hN : Neat p l E) (hN' : Neat p' l' E') (hn : n ≤ 536870912) (hn' : n' ≤ 536870912) (hE : E.natAbs ≤ 1073741824) (hE' : E'.natAbs ≤ 1073741824) :
    Calls Try.prog 17 #[.agg #[.bool p, .slice A n c, .int .i64 E], .agg #[.bool p', .slice A' n' c', .int .i64 E']] w (RetR (rdy p l E + rdy p' l' E') w) := by
  obtain ⟨⟨fr, tz⟩, hf⟩ : ∃ ft, endsF n E n' E' = ft := ⟨_, rfl⟩
  obtain ⟨N, hT⟩ : ∃ N : Nat, fr + N = tz := ⟨(tz - fr).toNat, by have := (ends_ok hf).2.2; omega⟩
  cases p <;> cases p'
  · exact radd_ff A n c l E A' n' c' l' E' w h h' hn hn' hE hE'
  · have h1 : n' ≠ 0 := fun e => neat_nil hN' rfl ((rd_zero h').1 e)
    by_cases h0 : n = 0
    · exact radd_z1 A n c l E A' n' c' l' E' w h h' hn hn' hE hE' h0
    · by_cases hC : dsum l E fr N < dsum l' E' fr N
      · exact radd_s1 A n c l E A' n' c' l' E' w h h' hn hn' hE hE' h0 h1 fr tz N hf hT hC
      · exact radd_n1 A n c l E A' n' c' l' E' w h h' hn hn' hE hE' h0 h1 fr tz N hf hT (Nat.le_of_not_lt hC)
  · have h0 : n ≠ 0 := fun e => neat_nil hN rfl ((rd_zero h).1 e)
    by_cases h1 : n' = 0
    · exact radd_z2 A n c l E A' n' c' l' E' w h h' hn hn' hE hE' h1 h0
    · by_cases hC : dsum l E fr N < dsum l' E' fr N
      · exact radd_s2 A n c l E A' n' c' l' E' w h h' hn hn' hE hE' h0 h1 fr tz N hf hT hC
      · exact radd_n2 A n c l E A' n' c' l' E' w h h' hn hn' hE hE' h0 h1 fr tz N hf hT (Nat.le_of_not_lt hC)
  · exact radd_tt A n c l E A' n' c' l' E' w h h' hn hn' hE hE'

/-- The call returned a value that holds the number. -/
def RetV (d : Dyadic) (w : World) (e : Ending) (w' : World) : Prop := ∃ v, e = .returned v ∧ DV w' v d ∧ Below w.heap.size w w'
theorem RetR.retv {d : Dyadic} {w : World} {e : Ending} {w' : World} (h : RetR d w e w') : RetV d w e w' := h.dv
/-- What the value is. -/
theorem DV.parts {W : World} {v : Value} {d : Dyadic} (h : DV W v d) (hf : Fitd d) :
    ∃ (neg : Bool) (A : Option Addr) (n c : Nat) (E : Int) (l : List Nat), v = .agg #[.bool neg, .slice A n c, .int .i64 E] ∧ Rd W A n c l ∧ Neat neg l E ∧ rdy neg l E = d ∧ n ≤ 268435456 ∧ E.natAbs ≤ 536870912 := by
  obtain ⟨neg, A, n, c, E, l, h1, h2, h3, h4⟩ := h
  have := fitd_in h3 h2.2.2.2.1 (by rw [h4]; exact hf)
  exact ⟨neg, A, n, c, E, l, h1, h2, h3, h4, by rw [h2.1]; exact this.1, this.2⟩
theorem radd_v {v v' : Value} {d d' : Dyadic} {w : World} (h : DV w v d) (h' : DV w v' d') (hf : Fitd d) (hf' : Fitd d') :
    Calls Try.prog 17 #[v, v'] w (RetV (d + d') w) := by
  obtain ⟨neg, A, n, c, E, l, rfl, h2, h3, rfl, h5, h6⟩ := h.parts hf
  obtain ⟨neg', A', n', c', E', l', rfl, h2', h3', rfl, h5', h6'⟩ := h'.parts hf'
  exact (radd_any neg A n c l E neg' A' n' c' l' E' w h2 h2' h3 h3' (by omega) (by omega) (by omega) (by omega)).mono fun e w' h => h.retv
theorem rmul_v {v v' : Value} {d d' : Dyadic} {w : World} (h : DV w v d) (h' : DV w v' d') (hf : Fitd d) (hf' : Fitd d') :
    Calls Try.prog 19 #[v, v'] w (RetV (d * d') w) := by
  obtain ⟨neg, A, n, c, E, l, rfl, h2, h3, rfl, h5, h6⟩ := h.parts hf
  obtain ⟨neg', A', n', c', E', l', rfl, h2', h3', rfl, h5', h6'⟩ := h'.parts hf'
  exact (rmul_any neg A n c l E neg' A' n' c' l' E' w h2 h2' (by omega) (by omega) (by omega) (by omega)).mono fun e w' h => h.retv
theorem dy_one (m e k : Int) : dy m e * dy 1 k = dy m (e + k) := by rw [dy_mul, Int.mul_one]
theorem rshift_v {v : Value} {d : Dyadic} {w : World} (k : Int) (hk : k.natAbs ≤ 1099511627776) (h : DV w v d) (hf : Fitd d) :
    Calls Try.prog 16 #[v, .int .i64 k] w (RetV (d * dy 1 k) w) := by
  obtain ⟨neg, A, n, c, E, l, rfl, h2, h3, rfl, h5, h6⟩ := h.parts hf
  refine (rshift_any neg A n c l E k w h2 (by omega) (by omega) (by omega)).mono fun e w' h => ?_
  have := h.retv
  rw [← dy_one] at this
  exact this
theorem rint_v (k : Int) (w : World) (h0 : -9223372036854775808 ≤ k) (h1 : k ≤ 9223372036854775807) :
    Calls Try.prog 18 #[.int .i64 k] w (RetV (dy k 0) w) := (rint_any k w h0 h1).mono fun e w' h => h.retv
theorem neg_rdy (neg : Bool) (l : List Nat) (E : Int) : rdy (!neg) l E = -rdy neg l E := by
  rw [rdy_sgd, rdy_sgd, sgd_not, dy_neg]
theorem neat_not {neg : Bool} {l : List Nat} {E : Int} (h : Neat neg l E) (hl : l ≠ []) : Neat (!neg) l E := by
  rcases h with ⟨h, _⟩ | h
  · exact absurd h hl
  · exact .inr h
theorem rminus_v {v : Value} {d : Dyadic} {w : World} (h : DV w v d) :
    Calls Try.prog 45 #[v] w (RetV (-d) w) := by
  obtain ⟨neg, A, n, c, E, l, rfl, h2, h3, rfl⟩ := h
  refine (rminus_any neg A n c E w).mono ?_
  rintro e w' ⟨rfl, hb⟩
  refine ⟨_, rfl, ⟨_, A, n, c, E, l, rfl, h2.below hb, ?_, ?_⟩, hb⟩
  · by_cases h0 : n = 0
    · rw [if_pos h0]; exact h3
    · rw [if_neg h0]; exact neat_not h3 (fun e => h0 ((rd_zero h2).2 e))
  · by_cases h0 : n = 0
    · rw [if_pos h0, (rd_zero h2).1 h0, rdy_nil]; rfl
    · rw [if_neg h0, neg_rdy]
/-- The size of a number. -/
def dabs (d : Dyadic) : Dyadic := if d < 0 then -d else d
theorem dabs_dy (m e : Int) : dabs (dy m e) = dy m.natAbs e := by
  unfold dabs
  have h := dy_lt m 0 e
  rw [dy_zero] at h
  by_cases hm : m < 0
  · rw [if_pos (h.2 hm), dy_neg]; congr 1; omega
  · rw [if_neg (fun hh => hm (h.1 hh))]; congr 1; omega
theorem rabs_v {v : Value} {d : Dyadic} {w : World} (h : DV w v d) :
    Calls Try.prog 15 #[v] w (RetV (dabs d) w) := by
  obtain ⟨neg, A, n, c, E, l, rfl, h2, h3, rfl⟩ := h
  refine (rabsd_any neg A n c E w).mono ?_
  rintro e w' ⟨rfl, hb⟩
  refine ⟨_, rfl, ⟨false, A, n, c, E, l, rfl, h2.below hb, ?_, ?_⟩, hb⟩
  · rcases h3 with ⟨h, _, h1⟩ | h
    · exact .inl ⟨h, rfl, h1⟩
    · exact .inr h
  · rw [rdy_sgd, rdy_sgd, dabs_dy, sgd_abs]; rfl
/-- The sign of a number. -/
theorem rsign_v {v : Value} {d : Dyadic} {w : World} (h : DV w v d) {m e : Int} (hd : d = dy m e) :
    Calls Try.prog 52 #[v] w fun e w' => e = .returned (.int .i64 m.sign) ∧ Below w.heap.size w w' := by
  obtain ⟨neg, A, n, c, E, l, rfl, h2, h3, h4⟩ := h
  rw [hd] at h4
  have hs : (if n = 0 then (0 : Int) else if neg = true then -1 else 1) = m.sign := by
    have hz := neat_zero h3 h2.2.2.2.1
    have hg := neat_neg h3 h2.2.2.2.1 h4
    rw [h4, dy_eq_zero] at hz
    by_cases h0 : n = 0
    · rw [if_pos h0, hz.1 ((rd_zero h2).1 h0)]; rfl
    · rw [if_neg h0]
      have hm : m ≠ 0 := fun e => h0 ((rd_zero h2).2 (hz.2 e))
      by_cases hn : m < 0
      · rw [hg, if_pos (by simpa using hn), Int.sign_eq_neg_one_of_neg hn]
      · rw [hg, if_neg (by simpa using hn), Int.sign_eq_one_of_pos (by omega)]
  rw [← hs]
  exact rsignd_any neg A n c E w

/-- The box holds the number. -/
def Bx (W : World) (g : Nat) (d : Dyadic) : Prop := ∃ (neg : Bool) (A : Option Addr) (n c : Nat) (E : Int) (l : List Nat), Blk W g 34 #[.bool neg, .slice A n c, .int .i64 E] ∧ Rd W A n c l ∧ Neat neg l E ∧ rdy neg l E = d
theorem Bx.below {W W' : World} {g : Nat} {d : Dyadic} (h : Bx W g d) (hb : Below W.heap.size W W') : Bx W' g d := by
  obtain ⟨neg, A, n, c, E, l, h1, h2, h3, h4⟩ := h
  exact ⟨neg, A, n, c, E, l, h1.next hb, h2.below hb, h3, h4⟩
theorem DV.far {W : World} {v : Value} {d : Dyadic} (h : DV W v d) {g : Nat} {t : TypeId} {cs : Array Value} (hB : Blk W g t cs) (ht : t ≠ 3) (i : Nat) (u : Value) : DV (W.setCell ⟨g, i, none⟩ u) v d := by
  obtain ⟨neg, A, n, c, E, l, h1, h2, h3, h4⟩ := h
  exact ⟨neg, A, n, c, E, l, h1, h2.far hB ht i u, h3, h4⟩
theorem Bx.lt {W : World} {g : Nat} {d : Dyadic} (h : Bx W g d) : g < W.heap.size := by
  obtain ⟨neg, A, n, c, E, l, h1, h2, h3, h4⟩ := h
  exact h1.lt
/-- Stored into a box. -/
theorem bx_store {W : World} {g : Nat} {x0 x1 x2 : Value} {ng : Bool} {A : Option Addr} {n c : Nat} {E : Int} {L : List Nat} {D : Dyadic} (hB : Blk W g 34 #[x0, x1, x2]) (hR : Rd W A n c L) (hN : Neat ng L E) (hd : rdy ng L E = D) :
    Bx (((W.setCell ⟨g, 0, none⟩ (.bool ng)).setCell ⟨g, 1, none⟩ (.slice A n c)).setCell ⟨g, 2, none⟩ (.int .i64 E)) g D :=
  ⟨ng, A, n, c, E, L, Blk.store3 hB _ _ _, ((hR.far hB (by decide) 0 _).far (hB.set_ 0 _) (by decide) 1 _).far ((hB.set_ 0 _).set_ 1 _) (by decide) 2 _, hN, hd⟩
end Go.Proofs.Ytjjneiidggcfdaa
set_option linter.unusedVariables false
namespace Go.Proofs.Ytjjneiidggcfdaa

/-- A float's number. -/
def fdy (b : Nat) : Dyadic := dy (Fl.val b) (-1074)
theorem fdy_parts (b : Nat) : dy (if Fl.sg b then -(Fl.pm b : Int) else (Fl.pm b : Int)) ((Fl.pe b : Int) - 1074) = fdy b := by
  unfold fdy Fl.val
  rw [Fl.mag_parts, show ((Fl.pe b : Int) - 1074) = -1074 + (Fl.pe b : Int) by omega, ← dy_pow]
  congr 1
  cases Fl.sg b <;> simp [Int.neg_mul]
theorem mag_inf (K : Nat) (hK : K = 2098) : Fl.mag Fl.INF = 2 ^ K := by
  have e2 : 4503599627370496 + 9218868437227405312 % 4503599627370496 = 2 ^ 52 := by decide
  obtain ⟨k, hk⟩ : ∃ k, 9218868437227405312 / 4503599627370496 - 1 = k := ⟨_, rfl⟩
  unfold Fl.mag Fl.INF
  rw [if_neg (by omega), hk, e2, ← Nat.pow_add, show 52 + k = K by omega]
theorem mag_lt_big {r : Nat} (K : Nat) (hK : K = 2098) (h : r < Fl.INF) : Fl.mag r < 2 ^ K := by
  have h1 : Fl.mag r < Fl.mag Fl.INF := Fl.mag_lt h
  rw [mag_inf K hK] at h1
  exact h1
theorem val_lt_big {b : Nat} (K : Nat) (hK : K = 2098) (h : Fl.rung b < Fl.INF) : (Fl.val b).natAbs < 2 ^ K := by
  have := mag_lt_big K hK h
  unfold Fl.val
  generalize 2 ^ K = P at *
  split <;> omega
end Go.Proofs.Ytjjneiidggcfdaa
set_option linter.unusedVariables false
set_option linter.unusedSimpArgs false
set_option linter.unnecessarySimpa false
namespace Go.Proofs.Ytjjneiidggcfdaa
open Go.RowKit
attribute [local go_sem ↓] Go.wp_at_zero Go.wp_at_succ

theorem fitd_neg {d : Dyadic} (h : Fitd d) : Fitd (-d) := by
  obtain ⟨lo, k, m, h1, h2, rfl, h4⟩ := h
  exact ⟨lo, k, -m, h1, h2, by rw [dy_neg], by rwa [Int.natAbs_neg]⟩
theorem rof_v (b : Nat) (w : World) (hb : b < 18446744073709551616) (hf : Fl.rung b < Fl.INF) : Calls Try.prog 12 #[.float .f64 b] w (RetV (fdy b) w) := by
  have HP := fun W => parts_any b W hb
  have e1 : partM b = (Fl.pm b : Int) := by unfold partM; rw [if_pos hf]
  have e2 : partE b = (Fl.pe b : Int) - 1074 := by unfold partE; rw [if_pos hf]
  rw [e1, e2] at HP
  have HP := Lib.hid HP
  have HW := Lib.hid (fun W => whole_any (Fl.sg b) (Fl.pm b) W (by have := Fl.pm_lt b; omega))
  have HF := Lib.hid (show Fitd (dy (if Fl.sg b then -(Fl.pm b : Int) else (Fl.pm b : Int)) 0) from fitd_of (j := 53) (by have := Fl.pm_lt b; rw [show (2 : Nat) ^ 53 = 9007199254740992 by decide]; split <;> omega) (by omega) (by omega))
  have HK := Lib.hid (show ((Fl.pe b : Int) - 1074).natAbs ≤ 1099511627776 by have := Fl.pe_lt hf; omega)
  have HV := Lib.hid (show dy (if Fl.sg b then -(Fl.pm b : Int) else (Fl.pm b : Int)) 0 * dy 1 ((Fl.pe b : Int) - 1074) = fdy b by rw [dy_one, Int.zero_add, fdy_parts])
  have HR0 := Lib.hid (Blk.new w 34 #[.bool false, .slice none 0 0, .int .i64 0])
  have HB0 := Lib.hid ((Below.refl w.heap.size w).alloc (Nat.le_refl _) (.cells #[.bool false, .slice none 0 0, .int .i64 0] 34))
  generalize dy (if Fl.sg b then -(Fl.pm b : Int) else (Fl.pm b : Int)) 0 = D0 at *
  generalize Fl.sg b = sb at *
  obtain ⟨ee, hee⟩ : ∃ ee : Int, (Fl.pe b : Int) - 1074 = ee := ⟨_, rfl⟩
  rw [hee] at HP HK HV
  generalize Fl.pm b = pm at *
  clear e1 e2 hee hb hf
  go_enter Try.func12, Try.ntmps12
  go_wp2_with fail
  refine (HP.out _).mono ?_
  rintro e w1 ⟨rfl, rfl⟩
  go_wp2_with fail
  refine (HW.out _).mono ?_
  intro e w1 hr
  obtain ⟨v1, rfl, hv1, hb1⟩ := hr.retv
  have HV1 := Lib.hid hv1
  have HR1 := Lib.hid (HR0.out.next hb1)
  have HB1 := Lib.hid (below_nx HB0.out hb1)
  clear hv1 hb1 hr
  go_wp2_with fail
  refine (rshift_v ee HK.out HV1.out (by exact HF.out)).mono ?_
  rintro e w2 ⟨v9, rfl, ⟨ng9, A9, n9, c9, E9, L9, rfl, hR9, hN9, hd9⟩, hb2⟩
  have HR2 := Lib.hid (HR1.out.next hb2)
  have HB2 := Lib.hid (below_nx HB1.out hb2)
  clear hb2
  replace hd9 := hd9.trans HV.out
  have f0 := HR2.out.frozen 0
  have f1 := HR2.out.frozen 1
  have f2 := HR2.out.frozen 2
  obtain ⟨r0, r1, r2⟩ := cells3 HR2.out
  have HRd9 := Lib.hid hR9
  have HN9 := Lib.hid hN9
  have HD9 := Lib.hid (show rdy ng9 L9 E9 = fdy b from hd9)
  clear hR9 hN9 hd9
  go_wp2_with fail
  obtain ⟨q0, q1, q2⟩ := cells3 (Blk.store3 HR2.out (.bool ng9) (.slice A9 n9 c9) (.int .i64 E9))
  exact bodyPost_ret (v := .agg #[.bool ng9, .slice A9 n9 c9, .int .i64 E9]) (by simp [results, Try.results12, go_sem, q0, q1, q2]) rfl (retR_done HR2.out HRd9.out HN9.out HD9.out HB2.out (by omega)).retv

set_option maxRecDepth 100000 in
set_option maxHeartbeats 4000000 in
theorem rsub_v {v v' : Value} {X Y : Dyadic} {w : World} (h : DV w v X) (h' : DV w v' Y) (hf : Fitd X) (hf' : Fitd Y) :
    Calls Try.prog 13 #[v, v'] w (RetV (X - Y) w) := by
  have HF := Lib.hid (And.intro hf (fitd_neg hf'))
  have HDV := Lib.hid (fun W (hb : Below w.heap.size w W) => h.below hb)
  have HDV' := Lib.hid (fun W (hb : Below w.heap.size w W) => h'.below hb)
  obtain ⟨neg, A, n, c, E, l, rfl, _, _, _⟩ := h
  obtain ⟨neg', A', n', c', E', l', rfl, _, _, _⟩ := h'
  have HX := Lib.hid (((Blk.new w 34 #[.bool neg, .slice A n c, .int .i64 E]).alloc (.cells #[.bool neg', .slice A' n' c', .int .i64 E'] 34)).alloc (.cells #[.bool false, .slice none 0 0, .int .i64 0] 34))
  have HY := Lib.hid ((Blk.new_ (w.alloc (.cells #[.bool neg, .slice A n c, .int .i64 E] 34)) 34 #[.bool neg', .slice A' n' c', .int .i64 E'] (w.heap.size + 1) (by simp)).alloc (.cells #[.bool false, .slice none 0 0, .int .i64 0] 34))
  have HR := Lib.hid (Blk.new_ ((w.alloc (.cells #[.bool neg, .slice A n c, .int .i64 E] 34)).alloc (.cells #[.bool neg', .slice A' n' c', .int .i64 E'] 34)) 34 #[.bool false, .slice none 0 0, .int .i64 0] (w.heap.size + 1 + 1) (by simp))
  have HBr := Lib.hid ((((Below.refl w.heap.size w).alloc (Nat.le_refl _) (.cells #[.bool neg, .slice A n c, .int .i64 E] 34)).alloc (by simp) (.cells #[.bool neg', .slice A' n' c', .int .i64 E'] 34)).alloc (by simp; omega) (.cells #[.bool false, .slice none 0 0, .int .i64 0] 34))
  clear hf hf'
  go_enter Try.func13, Try.ntmps13
  go_wp2_with fail
  generalize hW0 : (((w.alloc (.cells #[.bool neg, .slice A n c, .int .i64 E] 34)).alloc (.cells #[.bool neg', .slice A' n' c', .int .i64 E'] 34)).alloc (.cells #[.bool false, .slice none 0 0, .int .i64 0] 34)) = W0 at *
  clear hW0
  refine wp_region_inv [5, 6, 7, 8] (fun d s W => (d 0 = true → s 5 = .agg #[.bool neg, .slice A n c, .int .i64 E]) ∧ (d 1 = true → s 6 = .agg #[.bool neg', .slice A' n' c', .int .i64 E']) ∧ (d 2 = true → DV W (s 7) (-Y)) ∧ (d 3 = true → DV W (s 8) (X + -Y)) ∧ (d 2 = true → d 1 = true) ∧ (d 3 = true → d 0 = true ∧ d 1 = true ∧ d 2 = true) ∧ (d 4 = true → d 0 = true ∧ d 1 = true ∧ d 2 = true ∧ d 3 = true) ∧ ((d 4 = false → Below W0.heap.size W0 W) ∧ (d 4 = true → Bx W (w.heap.size + 1 + 1) (X + -Y) ∧ Below w.heap.size w W)))
    rfl (by kernel_rfl) ?_ ?_ ?_
  · exact ⟨by simp, by simp, by simp, by simp, by simp, by simp, by simp, ⟨fun _ => (Below.refl _ _).drew, fun h => by simp at h⟩⟩
  · refine ⟨?_, ?_, ?_, ?_, ?_, trivial⟩
    all_goals
      intro d s W hJ hfr hd hdep
      simp only [List.mem_cons, forall_eq_or_imp, List.not_mem_nil, false_implies, implies_true, and_true, Region.binds] at hdep
      have f2 := hfr 2 (by decide)
      have f3 := hfr 3 (by decide)
      have f4 := hfr 4 (by decide)
      simp at f2 f3 f4 hdep
      obtain ⟨h0, h1, h2, h3, x0, x1, x2, hT⟩ := hJ
    · have hl : d 4 = false := by
        cases h : d 4
        · rfl
        · have := x2 h; simp [hd] at this
      replace hT := hT.1 hl
      unfold OpSteps
      obtain ⟨p0, p1, p2⟩ := cells3 (HX.out.below hT HX.out.lt)
      simp [go_sem, evS, f2, p0, p1, p2]
      exact ⟨fun _ => by simp [sput], fun h => by simpa [sput] using h1 (by simpa [did] using h), fun h => by simpa [sput] using h2 (by simpa [did] using h), fun h => by simpa [sput] using h3 (by simpa [did] using h), fun h => by have := x0 (by simpa [did] using h); simp [did, this], fun h => by have := x1 (by simpa [did] using h); simp [did, this], fun h => by have := x2 (by simpa [did] using h); simp [did, this], ⟨fun _ => hT, fun h => by simp [did, hl] at h⟩⟩
    · have hl : d 4 = false := by
        cases h : d 4
        · rfl
        · have := x2 h; simp [hd] at this
      replace hT := hT.1 hl
      unfold OpSteps
      obtain ⟨p0, p1, p2⟩ := cells3 (HY.out.below hT HY.out.lt)
      simp [go_sem, evS, f3, p0, p1, p2]
      exact ⟨fun h => by simpa [sput] using h0 (by simpa [did] using h), fun _ => by simp [sput], fun h => by simpa [sput] using h2 (by simpa [did] using h), fun h => by simpa [sput] using h3 (by simpa [did] using h), fun h => by have := x0 (by simpa [did] using h); simp [did, this], fun h => by have := x1 (by simpa [did] using h); simp [did, this], fun h => by have := x2 (by simpa [did] using h); simp [did, this], ⟨fun _ => hT, fun h => by simp [did, hl] at h⟩⟩
    · have hl : d 4 = false := by
        cases h : d 4
        · rfl
        · have := x2 h; simp [hd] at this
      replace hT := hT.1 hl
      have fz1 := h1 (by simp [hdep])
      unfold OpSteps
      simp [go_sem, evS, fz1]
      refine (rminus_v (HDV'.out W (below_nx HBr.out hT))).mono ?_
      rintro e W' ⟨v9, rfl, hv, hb⟩
      refine ⟨_, rfl, ?_⟩
      exact ⟨fun h => by simpa [sput] using h0 (by simpa [did] using h), fun h => by simpa [sput] using h1 (by simpa [did] using h), fun _ => by simpa [sput] using hv, fun h => by simpa [sput] using (h3 (by simpa [did] using h)).below hb, fun _ => by simp [did, hdep], fun h => by have := x1 (by simpa [did] using h); simp [did, this], fun h => by have := x2 (by simpa [did] using h); simp [did, this], ⟨fun _ => below_nx hT hb, fun h => by simp [did, hl] at h⟩⟩
    · have hl : d 4 = false := by
        cases h : d 4
        · rfl
        · have := x2 h; simp [hd] at this
      replace hT := hT.1 hl
      have fz0 := h0 (by simp [hdep])
      have fz2 := h2 (by simp [hdep])
      unfold OpSteps
      simp [go_sem, evS, fz0, fz2]
      refine (radd_v (HDV.out W (below_nx HBr.out hT)) fz2 HF.out.1 HF.out.2).mono ?_
      rintro e W' ⟨v9, rfl, hv, hb⟩
      refine ⟨_, rfl, ?_⟩
      exact ⟨fun h => by simpa [sput] using h0 (by simpa [did] using h), fun h => by simpa [sput] using h1 (by simpa [did] using h), fun h => by simpa [sput] using (h2 (by simpa [did] using h)).below hb, fun _ => by simpa [sput] using hv, fun h => by have := x0 (by simpa [did] using h); simp [did, this], fun _ => by have y2 := x0 (by simp [hdep]); simp [did, hdep, y2], fun h => by have := x2 (by simpa [did] using h); simp [did, this], ⟨fun _ => below_nx hT hb, fun h => by simp [did, hl] at h⟩⟩
    · have fz3 := h3 (by simp [hdep])
      unfold OpSteps
      replace hT := hT.1 hd
      obtain ⟨ng, A9, n9, c9, E9, L9, gv, gR, gN, gd⟩ := fz3
      have hB9 := HR.out.below hT HR.out.lt
      have fr0 := hB9.frozen 0
      have fr1 := hB9.frozen 1
      have fr2 := hB9.frozen 2
      obtain ⟨k0, k1, k2⟩ := cells3 hB9
      simp [go_sem, evS, f4, gv, fr0, fr1, fr2, k0, k1, k2]
      exact ⟨fun h => by simpa [sput] using h0 (by simpa [did] using h), fun h => by simpa [sput] using h1 (by simpa [did] using h), fun h => by simpa [sput] using ((((h2 (by simpa [did] using h)).far hB9 (by decide) 0 _).far (hB9.set_ 0 _) (by decide) 1 _).far ((hB9.set_ 0 _).set_ 1 _) (by decide) 2 _), fun h => by simpa [sput] using ((((h3 (by simpa [did] using h)).far hB9 (by decide) 0 _).far (hB9.set_ 0 _) (by decide) 1 _).far ((hB9.set_ 0 _).set_ 1 _) (by decide) 2 _), fun h => by have := x0 (by simpa [did] using h); simp [did, this], fun h => by have := x1 (by simpa [did] using h); simp [did, this], fun _ => by have y3 := x1 (by simp [hdep]); simp [did, hdep, y3], ⟨fun h => by simp [did] at h, fun _ => ⟨bx_store hB9 gR gN gd, ((((HBr.out.trans (hT.mono HBr.out.size)).setCell (p := ⟨w.heap.size + 1 + 1, 0, none⟩) (by simp <;> omega) _).setCell (p := ⟨w.heap.size + 1 + 1, 1, none⟩) (by simp <;> omega) _).setCell (p := ⟨w.heap.size + 1 + 1, 2, none⟩) (by simp <;> omega) _)⟩⟩⟩
  intro d s W hJ hd
  obtain ⟨h0, h1, h2, h3, x0, x1, x2, hT⟩ := hJ
  obtain ⟨hBx, hBl⟩ := hT.2 (hd 4 (by decide))
  clear h0 h1 h2 h3 x0 x1 x2 hT hd
  obtain ⟨ng9, A9, n9, c9, E9, L9, hB9, hR9, hN9, hd9⟩ := hBx
  obtain ⟨q0, q1, q2⟩ := cells3 hB9
  have HRet := Lib.hid (show RetV (X - Y) w (.returned (.agg #[.bool ng9, .slice A9 n9 c9, .int .i64 E9])) W from ⟨_, rfl, ⟨ng9, A9, n9, c9, E9, L9, rfl, hR9, hN9, hd9⟩, hBl⟩)
  clear hB9 hR9 hN9 hd9 hBl
  simp [setAll]
  generalize s 5 = s5
  generalize s 6 = s6
  generalize s 7 = s7
  generalize s 8 = s8
  go_wp2_with fail
  exact bodyPost_ret (v := .agg #[.bool ng9, .slice A9 n9 c9, .int .i64 E9]) (by simp [results, Try.results13, go_sem, q0, q1, q2]) rfl HRet.out

set_option maxRecDepth 100000 in
set_option maxHeartbeats 4000000 in
theorem rcmp_v {v v' : Value} {X Y : Dyadic} {w : World} (h : DV w v X) (h' : DV w v' Y) (hf : Fitd X) (hf' : Fitd Y) {m e : Int} (hd : X - Y = dy m e) :
    Calls Try.prog 20 #[v, v'] w fun e w' => e = .returned (.int .i64 m.sign) ∧ Below w.heap.size w w' := by
  have HSub := Lib.hid (fun W (hb : Below w.heap.size w W) => rsub_v (h.below hb) (h'.below hb) hf hf')
  have HD := Lib.hid hd
  obtain ⟨neg, A, n, c, E, l, rfl, _, _, _⟩ := h
  obtain ⟨neg', A', n', c', E', l', rfl, _, _, _⟩ := h'
  have HX := Lib.hid ((Blk.new w 34 #[.bool neg, .slice A n c, .int .i64 E]).alloc (.cells #[.bool neg', .slice A' n' c', .int .i64 E'] 34))
  have HY := Lib.hid (Blk.new_ (w.alloc (.cells #[.bool neg, .slice A n c, .int .i64 E] 34)) 34 #[.bool neg', .slice A' n' c', .int .i64 E'] (w.heap.size + 1) (by simp))
  have HBr := Lib.hid (((Below.refl w.heap.size w).alloc (Nat.le_refl _) (.cells #[.bool neg, .slice A n c, .int .i64 E] 34)).alloc (by simp) (.cells #[.bool neg', .slice A' n' c', .int .i64 E'] 34))
  clear hd hf hf'
  go_enter Try.func20, Try.ntmps20
  obtain ⟨a0, a1, a2⟩ := cells3 HX.out
  obtain ⟨b0, b1, b2⟩ := cells3 HY.out
  go_wp2_with fail
  refine (HSub.out _ HBr.out).mono ?_
  rintro e1 w1 ⟨v1, rfl, hv1, hb1⟩
  have HV1 := Lib.hid hv1
  have HB1 := Lib.hid (below_nx HBr.out hb1)
  clear hv1 hb1
  go_wp2_with fail
  refine (rsign_v HV1.out HD.out).mono ?_
  rintro e2 w2 ⟨rfl, hb2⟩
  have HB2 := Lib.hid (below_nx HB1.out hb2)
  clear hb2
  go_wp2_with fail
  go_ret
  exact ⟨rfl, HB2.out⟩

end Go.Proofs.Ytjjneiidggcfdaa
set_option linter.unusedVariables false
namespace Go.Proofs.Ytjjneiidggcfdaa
open Go.RowKit

/-- r is the number z: the same word, or both are NaN. -/
def Is (r z : Nat) : Prop := r < 18446744073709551616 ∧ (r = z ∨ (Fl.nan r = true ∧ Fl.nan z = true))
theorem Is.lt {r z : Nat} (h : Is r z) : r < 18446744073709551616 := h.1
theorem Is.refl {r : Nat} (h : r < 18446744073709551616) : Is r r := ⟨h, .inl rfl⟩
theorem Is.same {r s z : Nat} (h : Is r z) (k : Is s z) : sameB r s = true := by
  unfold sameB
  rcases h with ⟨_, rfl | ⟨h1, h2⟩⟩ <;> rcases k with ⟨_, rfl | ⟨k1, k2⟩⟩ <;> simp_all
theorem Is.nan {r z : Nat} (h : Is r z) : Fl.nan r = Fl.nan z := by
  rcases h with ⟨_, rfl | ⟨h1, h2⟩⟩
  · rfl
  · rw [h1, h2]
theorem Is.trans {r s z : Nat} (h : Is r s) (k : Is s z) : Is r z := by
  refine ⟨h.1, ?_⟩
  rcases h with ⟨_, rfl | ⟨h1, h2⟩⟩
  · exact k.2
  · exact .inr ⟨h1, by rw [← k.nan]; exact h2⟩
theorem nan_rung {b : Nat} : Fl.nan b = true ↔ Fl.INF < Fl.rung b := by unfold Fl.nan; simp
/-- Is it a sum, a difference, a product, a quotient? -/
def isAr : BinOp → Bool | .add => true | .sub => true | .mul => true | .quo => true | _ => false
theorem fbits_lt {op : BinOp} {x y r : Nat} (h : floatBits op .f64 x y = some r) : r < 18446744073709551616 := by
  have := floatBits_wf h
  simpa [Lit.wf] using this
/-- r is what the operation comes to. -/
def Comes (op : BinOp) (x y r : Nat) : Prop := r < 18446744073709551616 ∧ (floatBits op .f64 x y = some r ∨ (floatBits op .f64 x y = none ∧ Fl.nan r = true))
/-! ### As the walk has them. -/
/-- The NaN that the tape gives. -/
def tapeNan (w : World) (x y : Nat) : Nat := Question.cut (.nanBits .f64 x y) (w.tape w.drawn (.nanBits .f64 x y))
theorem tapeNan_lt (w : World) (x y : Nat) : tapeNan w x y < 18446744073709551616 ∧ Fl.nan (tapeNan w x y) = true := by
  unfold tapeNan
  generalize w.tape w.drawn (.nanBits .f64 x y) = t
  have e : Question.cut (.nanBits .f64 x y) t = (t % 2) * 9223372036854775808 + (9218868437227405312 + 1 + t / 2 % 4503599627370495) := by
    show (t % 2) * 2 ^ 63 + 0x7ff0000000000000 + 1 + (t / 2) % (2 ^ 52 - 1) = _
    omega
  rw [e]
  have h1 : t % 2 < 2 := Nat.mod_lt _ (by omega)
  have h2 : t / 2 % 4503599627370495 < 4503599627370495 := Nat.mod_lt _ (by omega)
  generalize t / 2 % 4503599627370495 = q at *
  generalize t % 2 = s at *
  refine ⟨by omega, ?_⟩
  rw [nan_rung]
  unfold Fl.rung
  rw [Fl.INF_val]
  omega
/-- What the operation gives in a world. -/
def fres (op : BinOp) (w : World) (x y : Nat) : Nat := (floatBits op .f64 x y).getD (tapeNan w x y)
/-- How often it asks the tape. -/
def fdrw (op : BinOp) (x y : Nat) : Nat := if (floatBits op .f64 x y).isSome then 0 else 1
theorem fres_comes (op : BinOp) (w : World) (x y : Nat) : Comes op x y (fres op w x y) := by
  unfold fres Comes
  cases h : floatBits op .f64 x y with
  | some r => exact ⟨fbits_lt h, .inl rfl⟩
  | none => exact ⟨(tapeNan_lt w x y).1, .inr ⟨rfl, (tapeNan_lt w x y).2⟩⟩
theorem run_far (P : Program) (op : BinOp) (hop : isAr op = true) (t : TypeId) (x y : Nat) (w : World) : (binOp op t (.float .f64 x) (.float .f64 y)).run P w = .ok (.float .f64 (fres op w x y)) (w.drewN (fdrw op x y)) := by
  unfold fres fdrw
  cases h : floatBits op .f64 x y with
  | some r => exact run_float_arith w op t .f64 x y r h
  | none =>
    unfold floatBits at h
    cases op <;> simp only [isAr] at hop <;> first | (cases hop; done) | skip
    all_goals
      simp only at h
      simp only [binOp, Op.floatArith, h, tapeNan]
      rfl
theorem run_fadd (P : Program) (t : TypeId) (x y : Nat) (w : World) : (binOp .add t (.float .f64 x) (.float .f64 y)).run P w = .ok (.float .f64 (fres .add w x y)) (w.drewN (fdrw .add x y)) := run_far P .add rfl t x y w
theorem run_fsub (P : Program) (t : TypeId) (x y : Nat) (w : World) : (binOp .sub t (.float .f64 x) (.float .f64 y)).run P w = .ok (.float .f64 (fres .sub w x y)) (w.drewN (fdrw .sub x y)) := run_far P .sub rfl t x y w
theorem run_fmul (P : Program) (t : TypeId) (x y : Nat) (w : World) : (binOp .mul t (.float .f64 x) (.float .f64 y)).run P w = .ok (.float .f64 (fres .mul w x y)) (w.drewN (fdrw .mul x y)) := run_far P .mul rfl t x y w
theorem run_fquo (P : Program) (t : TypeId) (x y : Nat) (w : World) : (binOp .quo t (.float .f64 x) (.float .f64 y)).run P w = .ok (.float .f64 (fres .quo w x y)) (w.drewN (fdrw .quo x y)) := run_far P .quo rfl t x y w
attribute [go_sem] run_fadd run_fsub run_fmul run_fquo
end Go.Proofs.Ytjjneiidggcfdaa
set_option linter.unusedVariables false
namespace Go.Proofs.Ytjjneiidggcfdaa
open Go.RowKit
attribute [local go_sem ↓] Go.wp_at_zero Go.wp_at_succ

@[go_sem] theorem run_store_float (P : Program) (w : World) (a : Addr) (m : Mode) (k : FloatKind) (b : Nat) : (store a (.float k b) m).run P w = stored P w a (.float k b) m := run_store P w a _ m rfl

theorem kind_two (x : Nat) : (kindOf x == 2) = Fl.nan x := by
  unfold kindOf Fl.nan
  rw [Bool.eq_iff_iff, beq_iff_eq, decide_eq_true_eq]
  split
  · omega
  · split <;> omega

theorem rsame_v (a b : Nat) (w : World) (ha : a < 18446744073709551616) (hb : b < 18446744073709551616) :
    Calls Try.prog 57 #[.float .f64 a, .float .f64 b] w fun e w' => e = .returned (.bool (sameB a b)) ∧ w = w' := by
  have ka := kind_two a
  have kb := kind_two b
  have hc : (((a : Int) == (b : Int)) = true ∧ sameB a b = true) ∨ (((a : Int) == (b : Int)) = false ∧ ((Fl.nan a = true ∧ sameB a b = Fl.nan b) ∨ (Fl.nan a = false ∧ sameB a b = false))) := by
    by_cases h : a = b
    · exact .inl ⟨by simp [h], by simp [sameB, h]⟩
    · refine .inr ⟨by simp; omega, ?_⟩
      cases hn : Fl.nan a
      · exact .inr ⟨rfl, by simp [sameB, h, hn]⟩
      · exact .inl ⟨rfl, by simp [sameB, h, hn]⟩
  rcases hc with ⟨h1, h2⟩ | ⟨h1, ⟨h3, h2⟩ | ⟨h3, h2⟩⟩
  all_goals
    rw [h2]
    try rw [h3] at ka
    clear h2
    try clear h3
    go_enter Try.func57, Try.ntmps57
    go_wp2_with fail
    refine (parts_any a _ ha).mono ?_
    rintro e w' ⟨rfl, rfl⟩
    go_wp2_with fail
    refine (parts_any b _ hb).mono ?_
    rintro e w' ⟨rfl, rfl⟩
    go_wp2
    go_ret
    exact ⟨rfl, rfl⟩
theorem sameB_refl (a : Nat) : sameB a a = true := by simp [sameB]

/-- Two lists of the same numbers. -/
def Alike (x y : List Nat) : Prop := x.length = y.length ∧ ∀ (i : Nat) (h : i < x.length) (h' : i < y.length), sameB x[i] y[i] = true
theorem Alike.refl (x : List Nat) : Alike x x := ⟨rfl, fun i _ _ => sameB_refl _⟩

theorem rall_any (A B : Option Addr) (c d : Nat) (x y : List Nat) (w : World) (hx : Wds x) (hy : Wds y) (hA : Row w A (f64s x)) (hB : Row w B (f64s y)) (hl : x.length < 9223372036854775808) (h : Alike x y) :
    Calls Try.prog 26 #[.slice A x.length c, .slice B y.length d] w fun e w' => e = .returned (.bool true) ∧ Below w.heap.size w w' := by
  have hxy := h.1
  generalize hn : x.length = n at *
  have hn' : y.length = n := hxy.symm
  rw [hn']
  have HN := Lib.hid hn
  have HN' := Lib.hid hn'
  have HA := Lib.hid hA
  have HB := Lib.hid hB
  have HX := Lib.hid hx
  have HY := Lib.hid hy
  have HL := Lib.hid h
  clear hn hn' hA hB hx hy h hxy
  go_enter Try.func26, Try.ntmps26
  go_wp2
  go_loopw [5] (fun i wr => ∃ k : Nat, k ≤ n ∧ i = .int .i64 k ∧ Below w.heap.size w wr) (fun i _ => n - (intOf i).toNat)
  case atStart => exact ⟨0, Nat.zero_le _, rfl, Below.refl _ _⟩
  case round =>
    obtain ⟨k, hk, rfl, hbl⟩ := hrel
    have HBl := Lib.hid hbl
    clear hbl
    by_cases hlt : k < n
    · have hx1 : k < x.length := by rw [HN.out]; exact hlt
      have hy1 : k < y.length := by rw [HN'.out]; exact hlt
      obtain ⟨b, o, rfl, _, hcell⟩ := HA.out.at_ (f64s_get x k hx1)
      obtain ⟨b', o', rfl, _, hcell'⟩ := HB.out.at_ (f64s_get y k hy1)
      have HW := Lib.hid (HX.out.at_ k hx1)
      have HW' := Lib.hid (HY.out.at_ k hy1)
      have HS := Lib.hid (HL.out.2 k hx1 hy1)
      generalize x[k] = u at *
      generalize y[k] = v at *
      have hc1 := cell_below hcell HBl.out
      have hc2 := cell_below hcell' HBl.out
      clear hcell hcell'
      go_wp2_with fail
      go_region_held3 (fun w' => w'.cell? ⟨b, o + k, none⟩ = some (.float .f64 u) ∧ w'.cell? ⟨b', o' + k, none⟩ = some (.float .f64 v))
        (first | go_keep | exact ⟨hc1, hc2⟩)
        ((go_at_call 57; refine (rsame_v u v _ HW.out HW'.out).mono ?_; rw [HS.out]; rintro e w1 ⟨rfl, rfl⟩; skip))
      go_wp2_with fail
      go_roundw
      case rel => exact ⟨k + 1, by omega, by go_num, HBl.out.drew⟩
      case measure => simp [intOf]; omega
    · go_wp2
      go_ret
      exact ⟨rfl, HBl.out⟩
end Go.Proofs.Ytjjneiidggcfdaa
set_option linter.unusedVariables false
namespace Go.Proofs.Ytjjneiidggcfdaa
open Go.RowKit
attribute [local go_sem ↓] Go.wp_at_zero Go.wp_at_succ

theorem wrapi {z : Int} (h0 : -9223372036854775808 ≤ z) (h1 : z < 9223372036854775808) : IntKind.i64.wrap z = z := by
  simp [IntKind.wrap, IntKind.bits, IntKind.signed]; omega
/-- The place of the q-th number, row by row, of a matrix of r rows and k columns. -/
def spot (r k q : Nat) : Nat := q / k + q % k * r
theorem spot_lt {r k q : Nat} (h : q < r * k) : spot r k q < r * k := by
  unfold spot
  have hk : 0 < k := by rcases Nat.eq_zero_or_pos k with rfl | h0 <;> omega
  have h1 : q / k < r := Nat.div_lt_of_lt_mul (by rwa [Nat.mul_comm])
  have h2 : q % k < k := Nat.mod_lt _ hk
  calc q / k + q % k * r < r + q % k * r := by omega
    _ = (q % k + 1) * r := by rw [Nat.add_mul, Nat.one_mul, Nat.add_comm]
    _ ≤ k * r := Nat.mul_le_mul_right _ h2
    _ = r * k := Nat.mul_comm _ _
theorem spot_inj {r k q q' : Nat} (h : q < r * k) (h' : q' < r * k) (e : spot r k q = spot r k q') : q = q' := by
  unfold spot at e
  have hk : 0 < k := by rcases Nat.eq_zero_or_pos k with rfl | h0 <;> omega
  have h1 : q / k < r := Nat.div_lt_of_lt_mul (by rwa [Nat.mul_comm])
  have h1' : q' / k < r := Nat.div_lt_of_lt_mul (by rwa [Nat.mul_comm])
  have a1 : (q / k + q % k * r) % r = q / k := by rw [Nat.add_mul_mod_self_right, Nat.mod_eq_of_lt h1]
  have a2 : (q' / k + q' % k * r) % r = q' / k := by rw [Nat.add_mul_mod_self_right, Nat.mod_eq_of_lt h1']
  have b1 : (q / k + q % k * r) / r = q % k := by rw [Nat.add_mul_div_right _ _ (by omega), Nat.div_eq_of_lt h1, Nat.zero_add]
  have b2 : (q' / k + q' % k * r) / r = q' % k := by rw [Nat.add_mul_div_right _ _ (by omega), Nat.div_eq_of_lt h1', Nat.zero_add]
  have c1 : q / k = q' / k := by rw [← a1, e, a2]
  have c2 : q % k = q' % k := by rw [← b1, e, b2]
  rw [← Nat.div_add_mod q k, ← Nat.div_add_mod q' k, c1, c2]

/-- The matrix' list when the first q numbers stand in it. -/
def Dens (l : List Nat) (r k q : Nat) (M : List Nat) : Prop := M.length = r * k ∧ ∀ p, p < r * k → M.getD (spot r k p) 0 = if p < q then l.getD p 0 else 0
theorem Dens.zero (l : List Nat) (r k : Nat) : Dens l r k 0 (List.replicate (r * k) 0) := by
  refine ⟨by simp, fun p hp => ?_⟩
  have := spot_lt hp
  simp [List.getD, this]
theorem Dens.step {l : List Nat} {r k q : Nat} {M : List Nat} (h : Dens l r k q M) (hq : q < r * k) : Dens l r k (q + 1) (M.set (spot r k q) (l.getD q 0)) := by
  refine ⟨by rw [List.length_set]; exact h.1, fun p hp => ?_⟩
  have hs := spot_lt hq
  by_cases e : p = q
  · subst e
    simp [List.getD, h.1, hs]
  · have hne : spot r k q ≠ spot r k p := fun e' => e (spot_inj hp hq e'.symm)
    rw [List.getD, List.getElem?_set_ne hne]
    have := h.2 p hp
    rw [List.getD] at this
    rw [this]
    by_cases hpq : p < q
    · rw [if_pos hpq, if_pos (by omega)]
    · rw [if_neg hpq, if_neg (by omega)]
/-- The matrix' list in the end. -/
def Dense (l : List Nat) (r k : Nat) (M : List Nat) : Prop := M.length = r * k ∧ ∀ p, p < r * k → M.getD (spot r k p) 0 = l.getD p 0
theorem Dens.done {l : List Nat} {r k q : Nat} {M : List Nat} (h : Dens l r k q M) (hq : q = min l.length (r * k)) : Dense l r k M := by
  refine ⟨h.1, fun p hp => ?_⟩
  rw [h.2 p hp]
  by_cases hpq : p < q
  · rw [if_pos hpq]
  · rw [if_neg hpq]
    have : l.length ≤ p := by omega
    simp [List.getD, List.getElem?_eq_none this]

end Go.Proofs.Ytjjneiidggcfdaa
set_option linter.unusedVariables false
namespace Go.Proofs.Ytjjneiidggcfdaa
open Go.RowKit
attribute [local go_sem ↓] Go.wp_at_zero Go.wp_at_succ

theorem run_field_D (A : Option Addr) (n c : Nat) (off r k ld : Int) (w : World) :
    (Instr.field 95 (.agg #[.slice A n c, .int .i64 off, .int .i64 r, .int .i64 k, .int .i64 ld]) 0).run Try.prog w = .ok (.slice A n c) w := by kernel_rfl
attribute [go_sem] run_field_D
end Go.Proofs.Ytjjneiidggcfdaa
set_option linter.unusedVariables false
namespace Go.Proofs.Ytjjneiidggcfdaa
open Go.RowKit
attribute [local go_sem ↓] Go.wp_at_zero Go.wp_at_succ

/-- The first q numbers of the table stand there. -/
def Tab (l : List Nat) (off r k ld q : Nat) (T : List Nat) : Prop := T.length = r * k ∧ ∀ i j, i < r → j < k → i * k + j < q → T.getD (i * k + j) 0 = l.getD (off + i + j * ld) 0
theorem Tab.zero (l : List Nat) (off r k ld : Nat) : Tab l off r k ld 0 (List.replicate (r * k) 0) := ⟨by simp, fun i j _ _ h => by omega⟩
theorem tab_lt {r k i j : Nat} (hi : i < r) (hj : j < k) : i * k + j < r * k := by
  calc i * k + j < i * k + k := by omega
    _ = (i + 1) * k := by rw [Nat.add_mul, Nat.one_mul]
    _ ≤ r * k := Nat.mul_le_mul_right _ hi
theorem Tab.step {l : List Nat} {off r k ld i j : Nat} {T : List Nat} (h : Tab l off r k ld (i * k + j) T) (hi : i < r) (hj : j < k) :
    Tab l off r k ld (i * k + (j + 1)) (T.set (i * k + j) (l.getD (off + i + j * ld) 0)) := by
  have hlt := tab_lt hi hj
  refine ⟨by rw [List.length_set]; exact h.1, fun a b ha hb hab => ?_⟩
  by_cases e : a * k + b = i * k + j
  · have hk : 0 < k := by omega
    have e1 : a = i := by
      have h1 : (a * k + b) / k = a := by rw [Nat.add_comm, Nat.add_mul_div_right _ _ hk, Nat.div_eq_of_lt hb, Nat.zero_add]
      have h2 : (i * k + j) / k = i := by rw [Nat.add_comm, Nat.add_mul_div_right _ _ hk, Nat.div_eq_of_lt hj, Nat.zero_add]
      rw [← h1, e, h2]
    subst e1
    obtain rfl : b = j := by omega
    simp [List.getD, h.1, hlt]
  · rw [List.getD, List.getElem?_set_ne (fun e' => e e'.symm)]
    have := h.2 a b ha hb (by omega)
    rw [List.getD] at this
    exact this
theorem Tab.next {l : List Nat} {off r k ld i j : Nat} {T : List Nat} (h : Tab l off r k ld (i * k + j) T) (hj : j = k) : Tab l off r k ld ((i + 1) * k) T := by
  subst hj
  rw [Nat.add_mul, Nat.one_mul]; exact h

end Go.Proofs.Ytjjneiidggcfdaa
set_option linter.unusedVariables false
namespace Go.Proofs.Ytjjneiidggcfdaa
open Go.RowKit
attribute [local go_sem ↓] Go.wp_at_zero Go.wp_at_succ

/-- Block g is the call's own, and the list lies at its beginning. -/
def Own (w : World) (g : Nat) (l : List Nat) : Prop := ∃ cs : Array Value, Blk w g 25 cs ∧ cs.toList.take l.length = f64s l
section
variable {w w' : World} {g : Nat} {l : List Nat}
theorem Own.get (h : Own w g l) (i : Nat) (hi : i < l.length) : w.cell? ⟨g, i, none⟩ = some (.float .f64 l[i]) := by
  obtain ⟨cs, hB, ht⟩ := h
  rw [hB.cell i]
  have h1 : (cs.toList.take l.length)[i]? = some (.float .f64 l[i]) := by rw [ht]; exact f64s_get l i hi
  rw [List.getElem?_take_of_lt hi] at h1
  simpa using h1
theorem Own.row (h : Own w g l) : Row w (some ⟨g, 0, none⟩) (f64s l) :=
  .inr ⟨g, 0, rfl, fun i v hv => by
    obtain ⟨hi, rfl⟩ := f64s_get? hv
    rw [Nat.zero_add]; exact h.get i hi⟩
theorem Own.lt (h : Own w g l) : g < w.heap.size := by
  obtain ⟨cs, hB, _⟩ := h; exact hB.lt
theorem Own.frozen (h : Own w g l) (i : Nat) : w.frozen? ⟨g, i, none⟩ = false := by
  obtain ⟨cs, hB, _⟩ := h; exact hB.frozen i
theorem Own.nxt (h : Own w g l) (hb : Below w.heap.size w w') : Own w' g l := by
  obtain ⟨cs, hB, ht⟩ := h; exact ⟨cs, hB.nxt hb, ht⟩
theorem Own.only {k : Nat} (h : Own w g l) (hO : Only k w w') (hne : g ≠ k) : Own w' g l := by
  obtain ⟨cs, hB, ht⟩ := h; exact ⟨cs, hO.blk hne hB, ht⟩
theorem Own.set_ (h : Own w g l) (i v : Nat) (hi : i < l.length) : Own (w.setCell ⟨g, i, none⟩ (.float .f64 v)) g (l.set i v) := by
  obtain ⟨cs, hB, ht⟩ := h
  refine ⟨_, hB.set_ i _, ?_⟩
  rw [List.length_set, Array.toList_setIfInBounds, List.take_set, ht]
  simp [f64s, List.map_set]
theorem Own.drew (h : Own w g l) : Own w.drew g l := by
  obtain ⟨cs, hB, ht⟩ := h; exact ⟨cs, hB.drew, ht⟩
theorem Own.other (h : Own w g l) {p : Addr} (hp : g ≠ p.block) (u : Value) : Own (w.setCell p u) g l := by
  obtain ⟨cs, hB, ht⟩ := h; exact ⟨cs, hB.other hp u, ht⟩
end

theorem run_append_nil (B c : Nat) (w : World) : (Builtin.append_ #[22, 22] 22 #[.slice (some ⟨B, 0, none⟩) 0 0, .slice none 0 c]).run Try.prog w = .ok (.slice (some ⟨B, 0, none⟩) 0 0) w := by kernel_rfl
attribute [go_sem] run_append_nil

end Go.Proofs.Ytjjneiidggcfdaa
set_option linter.unusedVariables false
namespace Go.Proofs.Ytjjneiidggcfdaa
open Go.RowKit
attribute [local go_sem ↓] Go.wp_at_zero Go.wp_at_succ

theorem Only.of_below {g : Nat} {w w' : World} (h : Below w.heap.size w w') : Only g w w' := ⟨h.os, h.tape, h.output, h.size, fun k hk _ => h.block k hk⟩
theorem place_any (A : Option Addr) (n c : Nat) (off r k ld : Int) (i j p : Int) (w : World) (hp : off + i + j * ld = p) (h1 : I64 (off + i)) (h2 : I64 (j * ld)) (h3 : I64 p) :
    Calls Try.prog 82 #[mat A n c off r k ld, .int .i64 i, .int .i64 j] w fun e w' => e = .returned (.int .i64 p) ∧ Below w.heap.size w w' := by
  unfold I64 at h1 h2 h3
  have w1 : IntKind.i64.wrap (off + i) = off + i := wrapi (by omega) (by omega)
  have w2 : IntKind.i64.wrap (j * ld) = j * ld := wrapi (by omega) (by omega)
  have w3 : IntKind.i64.wrap p = p := wrapi (by omega) (by omega)
  have v1 : wrap64 (off + i) = off + i := by unfold wrap64; omega
  have v3 : wrap64 p = p := by unfold wrap64; omega
  unfold mat
  go_enter Try.func82, Try.ntmps82
  go_wp2_with fail
  go_ret
  exact ⟨rfl, (Below.refl w.heap.size w).alloc (Nat.le_refl _) _⟩

end Go.Proofs.Ytjjneiidggcfdaa
set_option linter.unusedVariables false
namespace Go.Proofs.Ytjjneiidggcfdaa
open Go.RowKit
attribute [local go_sem ↓] Go.wp_at_zero Go.wp_at_succ

theorem held10 {w W w' : World} {b0 o0 b1 o1 b2 o2 b3 o3 b4 o4 b5 o5 b6 o6 b7 o7 b8 o8 b9 o9 : Nat} {v0 v1 v2 v3 v4 v5 v6 v7 v8 v9 : Value} (h : W.cell? ⟨b0, o0, none⟩ = some v0 ∧ W.cell? ⟨b1, o1, none⟩ = some v1 ∧ W.cell? ⟨b2, o2, none⟩ = some v2 ∧ W.cell? ⟨b3, o3, none⟩ = some v3 ∧ W.cell? ⟨b4, o4, none⟩ = some v4 ∧ W.cell? ⟨b5, o5, none⟩ = some v5 ∧ W.cell? ⟨b6, o6, none⟩ = some v6 ∧ W.cell? ⟨b7, o7, none⟩ = some v7 ∧ W.cell? ⟨b8, o8, none⟩ = some v8 ∧ W.cell? ⟨b9, o9, none⟩ = some v9 ∧ Below w.heap.size w W) (hb : Below W.heap.size W w') :
    w'.cell? ⟨b0, o0, none⟩ = some v0 ∧ w'.cell? ⟨b1, o1, none⟩ = some v1 ∧ w'.cell? ⟨b2, o2, none⟩ = some v2 ∧ w'.cell? ⟨b3, o3, none⟩ = some v3 ∧ w'.cell? ⟨b4, o4, none⟩ = some v4 ∧ w'.cell? ⟨b5, o5, none⟩ = some v5 ∧ w'.cell? ⟨b6, o6, none⟩ = some v6 ∧ w'.cell? ⟨b7, o7, none⟩ = some v7 ∧ w'.cell? ⟨b8, o8, none⟩ = some v8 ∧ w'.cell? ⟨b9, o9, none⟩ = some v9 ∧ Below w.heap.size w w' :=
  ⟨cell_below h.1 hb, cell_below h.2.1 hb, cell_below h.2.2.1 hb, cell_below h.2.2.2.1 hb, cell_below h.2.2.2.2.1 hb, cell_below h.2.2.2.2.2.1 hb, cell_below h.2.2.2.2.2.2.1 hb, cell_below h.2.2.2.2.2.2.2.1 hb, cell_below h.2.2.2.2.2.2.2.2.1 hb, cell_below h.2.2.2.2.2.2.2.2.2.1 hb, h.2.2.2.2.2.2.2.2.2.2.trans (hb.mono h.2.2.2.2.2.2.2.2.2.2.size)⟩

theorem info_ptr : (Try.prog.info? 25).isSome = true := by kernel_rfl
@[go_sem] theorem run_eql_f64 (a : Addr) (W : World) : (binOp .eql 100 (.pointer (some a)) (.pointer (some a))).run Try.prog W = .ok (.bool true) W := by
  obtain ⟨j, hj⟩ := Option.isSome_iff_exists.1 info_ptr
  exact run_eql_ptr_same (P := Try.prog) W a Try.underlying100 hj

/-- Where a matrix' last number stands. -/
def lastI (off r k ld : Int) : Int := off + (r - 1) + (k - 1) * ld
theorem last_any (A : Option Addr) (n c : Nat) (off r k ld : Int) (w : World) (hn : n < 9223372036854775808) (hm : matB n off r k ld = true) (hr : 0 < r) (hk : 0 < k) (hr2 : I64 r) (hk2 : I64 k) :
    Calls Try.prog 81 #[mat A n c off r k ld] w fun e w' => e = .returned (.int .i64 (lastI off r k ld)) ∧ Below w.heap.size w w' := by
  have h := of_decide_eq_true hm
  have h0 : 0 ≤ (k - 1) * ld := Int.mul_nonneg (by omega) (by omega)
  obtain ⟨p, hp⟩ : ∃ p, lastI off r k ld = p := ⟨_, rfl⟩
  have hp' : off + (r - 1) + (k - 1) * ld = p := hp
  rw [hp]
  unfold I64 at hr2 hk2
  have H1 := Lib.hid (fun W => place_any A n c off r k ld (r - 1) (k - 1) p W hp' (by unfold I64; omega) (by unfold I64; omega) (by unfold I64; omega))
  have u1 : IntKind.i64.wrap (r - 1) = r - 1 := wrapi (by omega) (by omega)
  have u2 : IntKind.i64.wrap (k - 1) = k - 1 := wrapi (by omega) (by omega)
  have v1 : wrap64 (r - 1) = r - 1 := by unfold wrap64; omega
  have v2 : wrap64 (k - 1) = k - 1 := by unfold wrap64; omega
  clear hm h h0 hp hp'
  unfold mat at *
  go_enter Try.func81, Try.ntmps81
  go_wp2_with fail
  refine (H1.out _).mono ?_
  rintro e w1 ⟨rfl, hb⟩
  have HB := Lib.hid (((Below.refl w.heap.size w).alloc (Nat.le_refl _) (.cells #[.slice A n c, .int .i64 off, .int .i64 r, .int .i64 k, .int .i64 ld] 95)).trans (hb.mono (by simp)))
  clear hb
  go_wp2_with fail
  go_ret
  exact ⟨rfl, HB.out⟩

/-- Are both right and have both numbers? -/
def bothB (n : Nat) (off r k ld : Int) (n' : Nat) (off' r' k' ld' : Int) : Bool := matB n off r k ld && matB n' off' r' k' ld' && !(r == 0 || k == 0) && !(r' == 0 || k' == 0)

/-- Matrices that aren't right, or have no numbers. -/
theorem meet_none (A : Option Addr) (n c : Nat) (off r k ld : Int) (A' : Option Addr) (n' c' : Nat) (off' r' k' ld' : Int) (w : World) (hn : n < 9223372036854775808) (ho : I64 off) (hr : I64 r) (hk : I64 k) (hi : I64 ld)
    (hn' : n' < 9223372036854775808) (ho' : I64 off') (hr' : I64 r') (hk' : I64 k') (hi' : I64 ld') (h : bothB n off r k ld n' off' r' k' ld' = false) :
    Calls Try.prog 73 #[mat A n c off r k ld, mat A' n' c' off' r' k' ld'] w fun e w' => e = .returned (.bool false) ∧ Below w.heap.size w w' := by
  have H1 := Lib.hid (fun W => good_any A n c off r k ld W hn ho hr hk hi)
  have H2 := Lib.hid (fun W => good_any A' n' c' off' r' k' ld' W hn' ho' hr' hk' hi')
  have H3 := Lib.hid (fun W => none_any A n c off r k ld W)
  have H4 := Lib.hid (fun W => none_any A' n' c' off' r' k' ld' W)
  unfold bothB at h
  generalize matB n off r k ld = x at *
  generalize matB n' off' r' k' ld' = x' at *
  generalize (r == 0 || k == 0) = y at *
  generalize (r' == 0 || k' == 0) = y' at *
  clear hn ho hr hk hi hn' ho' hr' hk' hi'
  unfold mat at *
  go_enter Try.func73, Try.ntmps73
  have HZ0 := Lib.hid ((Blk.new w 95 #[.slice A n c, .int .i64 off, .int .i64 r, .int .i64 k, .int .i64 ld]).alloc (.cells #[.slice A' n' c', .int .i64 off', .int .i64 r', .int .i64 k', .int .i64 ld'] 95))
  have HZ1 := Lib.hid (Blk.new_ (w.alloc (.cells #[.slice A n c, .int .i64 off, .int .i64 r, .int .i64 k, .int .i64 ld] 95)) 95 #[.slice A' n' c', .int .i64 off', .int .i64 r', .int .i64 k', .int .i64 ld'] (w.heap.size + 1) (by simp))
  have HB0 := Lib.hid (((Below.refl w.heap.size w).alloc (Nat.le_refl _) (.cells #[.slice A n c, .int .i64 off, .int .i64 r, .int .i64 k, .int .i64 ld] 95)).alloc (by simp) (.cells #[.slice A' n' c', .int .i64 off', .int .i64 r', .int .i64 k', .int .i64 ld'] 95))
  go_wp2_with fail
  refine (H1.out _).mono ?_
  rintro e w1 ⟨rfl, hb1⟩
  have HZ2 := Lib.hid (HZ0.out.nxt hb1)
  have HZ3 := Lib.hid (HZ1.out.nxt hb1)
  have HB1 := Lib.hid (HB0.out.trans (hb1.mono HB0.out.size))
  obtain ⟨c0, c1, c2, c3, c4⟩ := cells5 HZ2.out
  obtain ⟨d0, d1, d2, d3, d4⟩ := cells5 HZ3.out
  clear hb1
  cases x
  · go_wp2_with fail
    go_ret
    exact ⟨rfl, HB1.out⟩
  go_wp2_with fail
  refine (H2.out _).mono ?_
  rintro e w2 ⟨rfl, hb1⟩
  clear c0 c1 c2 c3 c4 d0 d1 d2 d3 d4
  have HZ4 := Lib.hid (HZ2.out.nxt hb1)
  have HZ5 := Lib.hid (HZ3.out.nxt hb1)
  have HB2 := Lib.hid (HB1.out.trans (hb1.mono HB1.out.size))
  obtain ⟨c0, c1, c2, c3, c4⟩ := cells5 HZ4.out
  obtain ⟨d0, d1, d2, d3, d4⟩ := cells5 HZ5.out
  clear hb1
  cases x'
  · go_wp2_with fail
    go_ret
    exact ⟨rfl, HB2.out⟩
  go_wp2_with fail
  refine (H3.out _).mono ?_
  rintro e w3 ⟨rfl, hb1⟩
  clear c0 c1 c2 c3 c4 d0 d1 d2 d3 d4
  have HZ6 := Lib.hid (HZ4.out.nxt hb1)
  have HZ7 := Lib.hid (HZ5.out.nxt hb1)
  have HB3 := Lib.hid (HB2.out.trans (hb1.mono HB2.out.size))
  obtain ⟨c0, c1, c2, c3, c4⟩ := cells5 HZ6.out
  obtain ⟨d0, d1, d2, d3, d4⟩ := cells5 HZ7.out
  clear hb1
  cases y
  · cases y'
    · cases h
    · go_wp2_with fail
      refine (H4.out _).mono ?_
      rintro e w4 ⟨rfl, hb1⟩
      have HB4 := Lib.hid (HB3.out.trans (hb1.mono HB3.out.size))
      clear hb1
      go_wp2_with fail
      go_ret
      exact ⟨rfl, HB4.out⟩
  · go_wp2_with fail
    go_ret
    exact ⟨rfl, HB3.out⟩

set_option maxHeartbeats 2000000 in
/-- Matrices in lists that aren't one. -/
theorem meet_far (b o n c : Nat) (off r k ld : Int) (b' o' n' c' : Nat) (off' r' k' ld' : Int) (w : World) (hn : n < 9223372036854775808) (ho : I64 off) (hr : I64 r) (hk : I64 k) (hi : I64 ld)
    (hn' : n' < 9223372036854775808) (ho' : I64 off') (hr' : I64 r') (hk' : I64 k') (hi' : I64 ld') (h : bothB n off r k ld n' off' r' k' ld' = true) (hn0 : 0 < n) (hn0' : 0 < n')
    (hq : ∀ W, Below w.heap.size w W → (binOp .eql 100 (.pointer (some ⟨b, o, none⟩)) (.pointer (some ⟨b', o', none⟩))).run Try.prog W = .ok (.bool false) W) :
    Calls Try.prog 73 #[mat (some ⟨b, o, none⟩) n c off r k ld, mat (some ⟨b', o', none⟩) n' c' off' r' k' ld'] w fun e w' => e = .returned (.bool false) ∧ Below w.heap.size w w' := by
  have hb := h
  unfold bothB at hb
  simp only [Bool.and_eq_true, Bool.not_eq_true', Bool.or_eq_false_iff, beq_eq_false_iff_ne, ne_eq] at hb
  obtain ⟨⟨⟨g1, g2⟩, g3, g4⟩, g5, g6⟩ := hb
  have g1' := of_decide_eq_true g1
  have g2' := of_decide_eq_true g2
  have H1 := Lib.hid (fun W => good_any (some ⟨b, o, none⟩) n c off r k ld W hn ho hr hk hi)
  have H2 := Lib.hid (fun W => good_any (some ⟨b', o', none⟩) n' c' off' r' k' ld' W hn' ho' hr' hk' hi')
  have H3 := Lib.hid (fun W => none_any (some ⟨b, o, none⟩) n c off r k ld W)
  have H4 := Lib.hid (fun W => none_any (some ⟨b', o', none⟩) n' c' off' r' k' ld' W)
  rw [show (r == 0 || k == 0) = false by simp [g3, g4]] at H3
  rw [show (r' == 0 || k' == 0) = false by simp [g5, g6]] at H4
  rw [g1] at H1
  rw [g2] at H2
  have n1 : (0 : Int) < (n : Int) := by omega
  have n2 : (0 : Int) < (n' : Int) := by omega
  clear hn ho hr hk hi hn' ho' hr' hk' hi' g1 g2 g3 g4 g5 g6 h g1' g2'
  unfold mat at *
  go_enter Try.func73, Try.ntmps73
  have HZ0 := Lib.hid ((Blk.new w 95 #[.slice (some ⟨b, o, none⟩) n c, .int .i64 off, .int .i64 r, .int .i64 k, .int .i64 ld]).alloc (.cells #[.slice (some ⟨b', o', none⟩) n' c', .int .i64 off', .int .i64 r', .int .i64 k', .int .i64 ld'] 95))
  have HZ1 := Lib.hid (Blk.new_ (w.alloc (.cells #[.slice (some ⟨b, o, none⟩) n c, .int .i64 off, .int .i64 r, .int .i64 k, .int .i64 ld] 95)) 95 #[.slice (some ⟨b', o', none⟩) n' c', .int .i64 off', .int .i64 r', .int .i64 k', .int .i64 ld'] (w.heap.size + 1) (by simp))
  have HB0 := Lib.hid (((Below.refl w.heap.size w).alloc (Nat.le_refl _) (.cells #[.slice (some ⟨b, o, none⟩) n c, .int .i64 off, .int .i64 r, .int .i64 k, .int .i64 ld] 95)).alloc (by simp) (.cells #[.slice (some ⟨b', o', none⟩) n' c', .int .i64 off', .int .i64 r', .int .i64 k', .int .i64 ld'] 95))
  go_wp2_with fail
  refine (H1.out _).mono ?_
  rintro e w1 ⟨rfl, hb1⟩
  have HZ2 := Lib.hid (HZ0.out.nxt hb1)
  have HZ3 := Lib.hid (HZ1.out.nxt hb1)
  have HB1 := Lib.hid (HB0.out.trans (hb1.mono HB0.out.size))
  obtain ⟨c0, c1, c2, c3, c4⟩ := cells5 HZ2.out
  obtain ⟨d0, d1, d2, d3, d4⟩ := cells5 HZ3.out
  clear hb1
  go_wp2_with fail
  refine (H2.out _).mono ?_
  rintro e w2 ⟨rfl, hb1⟩
  clear c0 c1 c2 c3 c4 d0 d1 d2 d3 d4
  have HZ4 := Lib.hid (HZ2.out.nxt hb1)
  have HZ5 := Lib.hid (HZ3.out.nxt hb1)
  have HB2 := Lib.hid (HB1.out.trans (hb1.mono HB1.out.size))
  obtain ⟨c0, c1, c2, c3, c4⟩ := cells5 HZ4.out
  obtain ⟨d0, d1, d2, d3, d4⟩ := cells5 HZ5.out
  clear hb1
  go_wp2_with fail
  refine (H3.out _).mono ?_
  rintro e w3 ⟨rfl, hb1⟩
  clear c0 c1 c2 c3 c4 d0 d1 d2 d3 d4
  have HZ6 := Lib.hid (HZ4.out.nxt hb1)
  have HZ7 := Lib.hid (HZ5.out.nxt hb1)
  have HB3 := Lib.hid (HB2.out.trans (hb1.mono HB2.out.size))
  obtain ⟨c0, c1, c2, c3, c4⟩ := cells5 HZ6.out
  obtain ⟨d0, d1, d2, d3, d4⟩ := cells5 HZ7.out
  clear hb1
  go_wp2_with fail
  refine (H4.out _).mono ?_
  rintro e w4 ⟨rfl, hb1⟩
  clear c0 c1 c2 c3 c4 d0 d1 d2 d3 d4
  have HZ8 := Lib.hid (HZ6.out.nxt hb1)
  have HZ9 := Lib.hid (HZ7.out.nxt hb1)
  have HB4 := Lib.hid (HB3.out.trans (hb1.mono HB3.out.size))
  obtain ⟨c0, c1, c2, c3, c4⟩ := cells5 HZ8.out
  obtain ⟨d0, d1, d2, d3, d4⟩ := cells5 HZ9.out
  clear hb1
  go_wp2_with fail
  have hrun := hq w4 HB4.out
  have hrun0 := hq w4.drew HB4.out.drew
  have hrunN := fun m => hq (w4.drewN m) (below_drewN HB4.out m)
  have hbn := fun m => below_drewN HB4.out m
  clear hq
  go_quiet (fail)
  go_wp2_with fail
  go_ret
  exact ⟨rfl, by first | exact HB4.out | exact HB4.out.drew | exact hbn _⟩

end Go.Proofs.Ytjjneiidggcfdaa
set_option linter.unusedVariables false
namespace Go.Proofs.Ytjjneiidggcfdaa
open Go.RowKit
attribute [local go_sem ↓] Go.wp_at_zero Go.wp_at_succ

set_option maxHeartbeats 2000000 in
/-- Matrices in one list. -/
theorem meet_same (b o n c : Nat) (off r k ld : Int) (n' c' : Nat) (off' r' k' ld' : Int) (w : World) (hn : n < 9223372036854775808) (ho : I64 off) (hr : I64 r) (hk : I64 k) (hi : I64 ld)
    (hn' : n' < 9223372036854775808) (ho' : I64 off') (hr' : I64 r') (hk' : I64 k') (hi' : I64 ld') (h : bothB n off r k ld n' off' r' k' ld' = true) (hn0 : 0 < n) (hn0' : 0 < n') :
    Calls Try.prog 73 #[mat (some ⟨b, o, none⟩) n c off r k ld, mat (some ⟨b, o, none⟩) n' c' off' r' k' ld'] w fun e w' => e = .returned (.bool (decide (off ≤ lastI off' r' k' ld') && decide (off' ≤ lastI off r k ld))) ∧ Below w.heap.size w w' := by
  have hb := h
  unfold bothB at hb
  simp only [Bool.and_eq_true, Bool.not_eq_true', Bool.or_eq_false_iff, beq_eq_false_iff_ne, ne_eq] at hb
  obtain ⟨⟨⟨g1, g2⟩, g3, g4⟩, g5, g6⟩ := hb
  have g1' := of_decide_eq_true g1
  have g2' := of_decide_eq_true g2
  have H1 := Lib.hid (fun W => good_any (some ⟨b, o, none⟩) n c off r k ld W hn ho hr hk hi)
  have H2 := Lib.hid (fun W => good_any (some ⟨b, o, none⟩) n' c' off' r' k' ld' W hn' ho' hr' hk' hi')
  have H3 := Lib.hid (fun W => none_any (some ⟨b, o, none⟩) n c off r k ld W)
  have H4 := Lib.hid (fun W => none_any (some ⟨b, o, none⟩) n' c' off' r' k' ld' W)
  have HL := Lib.hid (fun W (nn cc : Nat) (x1 x2 x3 x4 : Int) (hx : (nn = n ∧ cc = c ∧ x1 = off ∧ x2 = r ∧ x3 = k ∧ x4 = ld) ∨ (nn = n' ∧ cc = c' ∧ x1 = off' ∧ x2 = r' ∧ x3 = k' ∧ x4 = ld')) =>
    show Calls Try.prog 81 #[mat (some ⟨b, o, none⟩) nn cc x1 x2 x3 x4] W fun e w' => e = .returned (.int .i64 (lastI x1 x2 x3 x4)) ∧ Below W.heap.size W w' by
      rcases hx with ⟨rfl, rfl, rfl, rfl, rfl, rfl⟩ | ⟨rfl, rfl, rfl, rfl, rfl, rfl⟩
      · exact last_any (some ⟨b, o, none⟩) _ _ _ _ _ _ W hn g1 (by omega) (by omega) hr hk
      · exact last_any (some ⟨b, o, none⟩) _ _ _ _ _ _ W hn' g2 (by omega) (by omega) hr' hk')
  rw [show (r == 0 || k == 0) = false by simp [g3, g4]] at H3
  rw [show (r' == 0 || k' == 0) = false by simp [g5, g6]] at H4
  rw [g1] at H1
  rw [g2] at H2
  have n1 : (0 : Int) < (n : Int) := by omega
  have n2 : (0 : Int) < (n' : Int) := by omega
  clear hn ho hr hk hi hn' ho' hr' hk' hi' g1 g2 g3 g4 g5 g6 h g1' g2'
  unfold mat at *
  go_enter Try.func73, Try.ntmps73
  have HZ0 := Lib.hid ((Blk.new w 95 #[.slice (some ⟨b, o, none⟩) n c, .int .i64 off, .int .i64 r, .int .i64 k, .int .i64 ld]).alloc (.cells #[.slice (some ⟨b, o, none⟩) n' c', .int .i64 off', .int .i64 r', .int .i64 k', .int .i64 ld'] 95))
  have HZ1 := Lib.hid (Blk.new_ (w.alloc (.cells #[.slice (some ⟨b, o, none⟩) n c, .int .i64 off, .int .i64 r, .int .i64 k, .int .i64 ld] 95)) 95 #[.slice (some ⟨b, o, none⟩) n' c', .int .i64 off', .int .i64 r', .int .i64 k', .int .i64 ld'] (w.heap.size + 1) (by simp))
  have HB0 := Lib.hid (((Below.refl w.heap.size w).alloc (Nat.le_refl _) (.cells #[.slice (some ⟨b, o, none⟩) n c, .int .i64 off, .int .i64 r, .int .i64 k, .int .i64 ld] 95)).alloc (by simp) (.cells #[.slice (some ⟨b, o, none⟩) n' c', .int .i64 off', .int .i64 r', .int .i64 k', .int .i64 ld'] 95))
  go_wp2_with fail
  refine (H1.out _).mono ?_
  rintro e w1 ⟨rfl, hb1⟩
  have HZ2 := Lib.hid (HZ0.out.nxt hb1)
  have HZ3 := Lib.hid (HZ1.out.nxt hb1)
  have HB1 := Lib.hid (HB0.out.trans (hb1.mono HB0.out.size))
  obtain ⟨c0, c1, c2, c3, c4⟩ := cells5 HZ2.out
  obtain ⟨d0, d1, d2, d3, d4⟩ := cells5 HZ3.out
  clear hb1
  go_wp2_with fail
  refine (H2.out _).mono ?_
  rintro e w2 ⟨rfl, hb1⟩
  clear c0 c1 c2 c3 c4 d0 d1 d2 d3 d4
  have HZ4 := Lib.hid (HZ2.out.nxt hb1)
  have HZ5 := Lib.hid (HZ3.out.nxt hb1)
  have HB2 := Lib.hid (HB1.out.trans (hb1.mono HB1.out.size))
  obtain ⟨c0, c1, c2, c3, c4⟩ := cells5 HZ4.out
  obtain ⟨d0, d1, d2, d3, d4⟩ := cells5 HZ5.out
  clear hb1
  go_wp2_with fail
  refine (H3.out _).mono ?_
  rintro e w3 ⟨rfl, hb1⟩
  clear c0 c1 c2 c3 c4 d0 d1 d2 d3 d4
  have HZ6 := Lib.hid (HZ4.out.nxt hb1)
  have HZ7 := Lib.hid (HZ5.out.nxt hb1)
  have HB3 := Lib.hid (HB2.out.trans (hb1.mono HB2.out.size))
  obtain ⟨c0, c1, c2, c3, c4⟩ := cells5 HZ6.out
  obtain ⟨d0, d1, d2, d3, d4⟩ := cells5 HZ7.out
  clear hb1
  go_wp2_with fail
  refine (H4.out _).mono ?_
  rintro e w4 ⟨rfl, hb1⟩
  clear c0 c1 c2 c3 c4 d0 d1 d2 d3 d4
  have HZ8 := Lib.hid (HZ6.out.nxt hb1)
  have HZ9 := Lib.hid (HZ7.out.nxt hb1)
  have HB4 := Lib.hid (HB3.out.trans (hb1.mono HB3.out.size))
  obtain ⟨c0, c1, c2, c3, c4⟩ := cells5 HZ8.out
  obtain ⟨d0, d1, d2, d3, d4⟩ := cells5 HZ9.out
  clear hb1
  go_wp2_with fail
  cases hd1 : decide (off ≤ lastI off' r' k' ld')
  · have HB5 := Lib.hid HB4.out.drew
    have p0 : w4.drew.cell? ⟨w.heap.size, 0, none⟩ = _ := c0
    have q0 : w4.drew.cell? ⟨w.heap.size + 1, 0, none⟩ = _ := d0
    have p1 : w4.drew.cell? ⟨w.heap.size, 1, none⟩ = _ := c1
    have q1 : w4.drew.cell? ⟨w.heap.size + 1, 1, none⟩ = _ := d1
    have p2 : w4.drew.cell? ⟨w.heap.size, 2, none⟩ = _ := c2
    have q2 : w4.drew.cell? ⟨w.heap.size + 1, 2, none⟩ = _ := d2
    have p3 : w4.drew.cell? ⟨w.heap.size, 3, none⟩ = _ := c3
    have q3 : w4.drew.cell? ⟨w.heap.size + 1, 3, none⟩ = _ := d3
    have p4 : w4.drew.cell? ⟨w.heap.size, 4, none⟩ = _ := c4
    have q4 : w4.drew.cell? ⟨w.heap.size + 1, 4, none⟩ = _ := d4
    first
    | go_region_with ((go_at_call 81; refine (HL.out _ _ _ _ _ _ _ (by first | exact .inl ⟨rfl, rfl, rfl, rfl, rfl, rfl⟩ | exact .inr ⟨rfl, rfl, rfl, rfl, rfl, rfl⟩)).mono ?_; rintro e1 wA ⟨rfl, hbA⟩; have p0' := cell_below p0 hbA; have q0' := cell_below q0 hbA; have p1' := cell_below p1 hbA; have q1' := cell_below q1 hbA; have p2' := cell_below p2 hbA; have q2' := cell_below q2 hbA; have p3' := cell_below p3 hbA; have q3' := cell_below q3 hbA; have p4' := cell_below p4 hbA; have q4' := cell_below q4 hbA; skip))
    | fail "no way"
    all_goals
      have HB6 := Lib.hid (HB5.out.trans (hbA.mono HB5.out.size))
      clear hbA
      go_wp2_with fail
      go_ret
      exact ⟨ret_bool (by simp [*]), HB6.out⟩
  cases hd2 : decide (off' ≤ lastI off r k ld)
  · go_region_held3 (fun w' => w'.cell? ⟨w.heap.size, 0, none⟩ = some (.slice (some ⟨b, o, none⟩) n c) ∧ w'.cell? ⟨w.heap.size, 1, none⟩ = some (.int .i64 off) ∧ w'.cell? ⟨w.heap.size, 2, none⟩ = some (.int .i64 r) ∧ w'.cell? ⟨w.heap.size, 3, none⟩ = some (.int .i64 k) ∧ w'.cell? ⟨w.heap.size, 4, none⟩ = some (.int .i64 ld) ∧ w'.cell? ⟨w.heap.size + 1, 0, none⟩ = some (.slice (some ⟨b, o, none⟩) n' c') ∧ w'.cell? ⟨w.heap.size + 1, 1, none⟩ = some (.int .i64 off') ∧ w'.cell? ⟨w.heap.size + 1, 2, none⟩ = some (.int .i64 r') ∧ w'.cell? ⟨w.heap.size + 1, 3, none⟩ = some (.int .i64 k') ∧ w'.cell? ⟨w.heap.size + 1, 4, none⟩ = some (.int .i64 ld') ∧ Below w.heap.size w w')
      (first | exact ⟨c0, c1, c2, c3, c4, d0, d1, d2, d3, d4, HB4.out.drew⟩ | exact held10 ‹_ ∧ _ ∧ _ ∧ _ ∧ _ ∧ _ ∧ _ ∧ _ ∧ _ ∧ _ ∧ Below w.heap.size w _› hbA)
      ((go_at_call 81; refine (HL.out _ _ _ _ _ _ _ (by first | exact .inl ⟨rfl, rfl, rfl, rfl, rfl, rfl⟩ | exact .inr ⟨rfl, rfl, rfl, rfl, rfl, rfl⟩)).mono ?_; rintro e1 wA ⟨rfl, hbA⟩; skip))
    all_goals
      go_wp2_with fail
      go_ret
      exact ⟨ret_bool (by simp [*]), (‹_ ∧ _ ∧ _ ∧ _ ∧ _ ∧ _ ∧ _ ∧ _ ∧ _ ∧ _ ∧ Below w.heap.size w _›).2.2.2.2.2.2.2.2.2.2⟩
  · go_region_held3 (fun w' => w'.cell? ⟨w.heap.size, 0, none⟩ = some (.slice (some ⟨b, o, none⟩) n c) ∧ w'.cell? ⟨w.heap.size, 1, none⟩ = some (.int .i64 off) ∧ w'.cell? ⟨w.heap.size, 2, none⟩ = some (.int .i64 r) ∧ w'.cell? ⟨w.heap.size, 3, none⟩ = some (.int .i64 k) ∧ w'.cell? ⟨w.heap.size, 4, none⟩ = some (.int .i64 ld) ∧ w'.cell? ⟨w.heap.size + 1, 0, none⟩ = some (.slice (some ⟨b, o, none⟩) n' c') ∧ w'.cell? ⟨w.heap.size + 1, 1, none⟩ = some (.int .i64 off') ∧ w'.cell? ⟨w.heap.size + 1, 2, none⟩ = some (.int .i64 r') ∧ w'.cell? ⟨w.heap.size + 1, 3, none⟩ = some (.int .i64 k') ∧ w'.cell? ⟨w.heap.size + 1, 4, none⟩ = some (.int .i64 ld') ∧ Below w.heap.size w w')
      (first | exact ⟨c0, c1, c2, c3, c4, d0, d1, d2, d3, d4, HB4.out.drew⟩ | exact held10 ‹_ ∧ _ ∧ _ ∧ _ ∧ _ ∧ _ ∧ _ ∧ _ ∧ _ ∧ _ ∧ Below w.heap.size w _› hbA)
      ((go_at_call 81; refine (HL.out _ _ _ _ _ _ _ (by first | exact .inl ⟨rfl, rfl, rfl, rfl, rfl, rfl⟩ | exact .inr ⟨rfl, rfl, rfl, rfl, rfl, rfl⟩)).mono ?_; rintro e1 wA ⟨rfl, hbA⟩; skip))
    all_goals
      go_wp2_with fail
      go_ret
      exact ⟨ret_bool (by simp [*]), (‹_ ∧ _ ∧ _ ∧ _ ∧ _ ∧ _ ∧ _ ∧ _ ∧ _ ∧ _ ∧ Below w.heap.size w _›).2.2.2.2.2.2.2.2.2.2⟩
end Go.Proofs.Ytjjneiidggcfdaa
set_option linter.unusedVariables false
namespace Go.Proofs.Ytjjneiidggcfdaa
open Go.RowKit
attribute [local go_sem ↓] Go.wp_at_zero Go.wp_at_succ

theorem run_sameAddr_far {P : Program} {w : World} {b o g : Nat} {t : TypeId} {cs : Array Value} {v : Value} (hne : b ≠ g) (hc : w.cell? ⟨b, o, none⟩ = some v) (hf : w.frozen? ⟨b, o, none⟩ = false) (hB : Blk w g t cs) (hs : 0 < cs.size) :
    (sameAddr ⟨b, o, none⟩ ⟨g, 0, none⟩).run P w = .ok false w := by
  obtain ⟨ca, ta, fr, ha, m, hm⟩ : ∃ ca ta fr, w.heap[b]? = some (.cells ca ta fr) ∧ ∃ m, ca.size = m + 1 := by
    unfold World.cell? at hc
    simp only at hc
    split at hc
    · rename_i ca ta fr h
      refine ⟨ca, ta, fr, h, ca.size - 1, ?_⟩
      have h1 := (Array.getElem?_eq_some_iff.1 hc).1
      omega
    · cases hc
  have hg := hB
  unfold Blk at hg
  have hs0 : cs.size ≠ 0 := by omega
  obtain ⟨lo, hi⟩ := fr
  have hf' : (decide (lo ≤ o) && decide (o < hi)) = false := by
    simpa [World.frozen?, ha] using hf
  have hg2 : g ≠ b := fun e => hne e.symm
  cases h1 : decide (lo ≤ m + 1) && decide (m + 1 < hi)
  all_goals simp [sameAddr, hne, World.frozen?, ha, hg, hf', noView, viewAt, World.shape?, mayBeOne, stringish, hs0, h1, hm]
theorem run_eql_far {W : World} {b o g : Nat} {t : TypeId} {cs : Array Value} {v : Value} (hne : b ≠ g) (hc : W.cell? ⟨b, o, none⟩ = some v) (hf : W.frozen? ⟨b, o, none⟩ = false) (hB : Blk W g t cs) (hs : 0 < cs.size) :
    (binOp .eql 100 (.pointer (some ⟨b, o, none⟩)) (.pointer (some ⟨g, 0, none⟩))).run Try.prog W = .ok (.bool false) W := by
  have hz : (Try.prog.info? 25).map (fun i => i.size) = some 1 := by kernel_rfl
  obtain ⟨j, hj, hsz⟩ := Option.map_eq_some_iff.1 hz
  have h0 := run_sameAddr_far (P := Try.prog) hne hc hf hB hs
  have h : ∀ d : Nat, (Op.equalIn (d + 1) 100 (.pointer (some ⟨b, o, none⟩)) (.pointer (some ⟨g, 0, none⟩))).run Try.prog W = .ok false W := fun d => by
    simp [Op.equalIn, run_underlying Try.underlying100, sizeOf, typeInfo, hj, hsz, h0]
  simp only [binOp]
  simp [Op.equal, Op.maxDepth, h 9999]

theorem both_pos {n n' : Nat} {off r k ld off' r' k' ld' : Int} (h : bothB n off r k ld n' off' r' k' ld' = true) : 0 < n := by
  unfold bothB at h
  simp only [Bool.and_eq_true, Bool.not_eq_true', Bool.or_eq_false_iff, beq_eq_false_iff_ne, ne_eq] at h
  have g1 := of_decide_eq_true h.1.1.1
  have h0 : 0 ≤ (k - 1) * ld := Int.mul_nonneg (by omega) (by omega)
  omega

end Go.Proofs.Ytjjneiidggcfdaa
set_option linter.unusedVariables false
namespace Go.Proofs.Ytjjneiidggcfdaa

/-- What lies in the blocks, where block g holds l. -/
def upd (s : Nat → List Nat) (g : Nat) (l : List Nat) : Nat → List Nat := fun h => if h = g then l else s h
theorem upd_self (s : Nat → List Nat) (g : Nat) (l : List Nat) : upd s g l g = l := by simp [upd]
theorem upd_ne {s : Nat → List Nat} {g h : Nat} {l : List Nat} (hne : h ≠ g) : upd s g l h = s h := by simp [upd, hne]
theorem upd_upd (s : Nat → List Nat) (g : Nat) (l m : List Nat) : upd (upd s g l) g m = upd s g m := by
  funext h; unfold upd; split <;> rfl
theorem upd_same (s : Nat → List Nat) (g : Nat) : upd s g (s g) = s := by
  funext h; unfold upd; split
  · rename_i e; rw [e]
  · rfl
theorem getD_of_lt {l : List Nat} {i : Nat} (h : i < l.length) : l.getD i 0 = l[i] := by simp [List.getD, h]
theorem getD_set_self {l : List Nat} {i : Nat} (h : i < l.length) (v : Nat) : (l.set i v).getD i 0 = v := by simp [List.getD, h]
theorem getD_set_ne (l : List Nat) {i j : Nat} (h : i ≠ j) (v : Nat) : (l.set i v).getD j 0 = l.getD j 0 := by
  rw [List.getD, List.getElem?_set_ne h, List.getD]
theorem ext_getD {l m : List Nat} (hl : l.length = m.length) (h : ∀ i, i < l.length → l.getD i 0 = m.getD i 0) : l = m := by
  refine List.ext_getElem hl fun i h1 h2 => ?_
  have := h i h1
  rwa [getD_of_lt h1, getD_of_lt h2] at this

/-- The numbers are written there. -/
def wrt (l : List Nat) (off inc : Nat) (q : List Nat) : Nat → List Nat
  | 0 => l
  | k + 1 => (wrt l off inc q k).set (off + k * inc) (q.getD k 0)
theorem wrt_length (l : List Nat) (off inc : Nat) (q : List Nat) (k : Nat) : (wrt l off inc q k).length = l.length := by
  induction k with
  | zero => rfl
  | succ k ih => simp [wrt, ih]
theorem wrt_else (l : List Nat) (off inc : Nat) (q : List Nat) (k : Nat) {x : Nat} (h : ∀ i, i < k → x ≠ off + i * inc) : (wrt l off inc q k).getD x 0 = l.getD x 0 := by
  induction k with
  | zero => rfl
  | succ k ih =>
    rw [wrt, getD_set_ne _ (fun e => h k (by omega) e.symm)]
    exact ih fun i hi => h i (by omega)
theorem place_inj {off inc i j : Nat} (hi : 1 ≤ inc) (h : off + i * inc = off + j * inc) : i = j := Nat.eq_of_mul_eq_mul_right hi (by omega)
theorem place_lt {n off inc k i : Nat} (h : off + (k - 1) * inc < n) (hi : i < k) : off + i * inc < n := by
  have : i * inc ≤ (k - 1) * inc := Nat.mul_le_mul_right _ (by omega)
  omega
theorem wrt_at (l : List Nat) (off inc : Nat) (q : List Nat) (k : Nat) (hi : 1 ≤ inc) (hk : k = 0 ∨ off + (k - 1) * inc < l.length) {i : Nat} (h : i < k) : (wrt l off inc q k).getD (off + i * inc) 0 = q.getD i 0 := by
  induction k with
  | zero => omega
  | succ k ih =>
    have hlt : off + k * inc < l.length := by
      rcases hk with hk | hk
      · omega
      · simpa using hk
    by_cases e : i = k
    · subst e
      rw [wrt, getD_set_self (by rw [wrt_length]; exact hlt)]
    · rw [wrt, getD_set_ne _ (fun e' => e (place_inj hi e'.symm))]
      refine ih ?_ (by omega)
      rcases Nat.eq_zero_or_pos k with h0 | h0
      · exact .inl h0
      · refine .inr ?_
        have : (k - 1) * inc ≤ k * inc := Nat.mul_le_mul_right _ (by omega)
        omega
end Go.Proofs.Ytjjneiidggcfdaa
