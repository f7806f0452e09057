/-
What the proof rests on: laws of floats, lists, memory and the walks of the functions. Conditions: as each says.
-/
import Derived.Test.YtajcjpbfmpljkaaDoorDyadIntsZb
import Derived.Below
import Derived.ChangeSame
import Derived.Laws.Cover2
import Derived.Test.YtajcjpbfmpljkaaDoorRows
import Derived.KernelRfl
import Derived.WalkKit
import Derived.Laws.Rows
import Derived.Deep.Draws
import Derived.Laws.OwnMore
import Derived.Lib.Hide
import Derived.WalkLawsBesides
import Derived.WalkSpells
import Derived.LoopTactic
import Derived.Outline
import Derived.Deep.QuietTactic
import Derived.BigQuiet
import Derived.RegionTactic
import Derived.Lib.BitFns
import Derived.Deep.RegionHeld3
import Derived.Deep.DrawnRows
import Derived.Laws.FloatBits
import GoSem.Core.Float
import Derived.Laws.BitsAllLaws
import Derived.Laws.Externs
import Derived.Deep.RegionWith
import Derived.Shelf.Spec.BitsCarry
import Derived.Deep.OwnRows
import Derived.Deep.DeepCutAuto
import Derived.IntWalk
import Derived.Shelf.Spec.TrailingZeros
import Derived.Lib.LaidTab
import Derived.Lib.ItoaNum
import Derived.Lib.LaidU8
import Derived.Laws.FloatArith
import Derived.Lib.Builder
import Derived.Lib.AppendStr
import Derived.Lib.UnsafeStr
import Derived.Shelf.Strings.Builder1
import Derived.Shelf.Strings.Builder2
import Derived.Shelf.Strings.OnBuilder
import Derived.Shelf.Strings.Trim
import Derived.Shelf.Small.Utf8
import Derived.Shelf.Small.Strs
import Derived.Shelf.Strings.BuilderF
import Derived.Shelf.Strings.BuilderK
import Derived.Shelf.Strconv.Itoa0
import Derived.Shelf.Strconv.Itoa1
import Derived.Shelf.LaysM
import Derived.Shelf.Strconv.Itoa2
import Derived.Shelf.Strings.Search1
import Derived.Shelf.Strings.Prefix
import Derived.Shelf.Strings.Runes
import Derived.Shelf.Strings.AsciiSet
import Derived.Shelf.Bits.Mul64
import Derived.Shelf.Strings.Repeat
import Derived.Shelf.Unicode.DecodeSlow
import Derived.Ground.Names2Prog
import Derived.Shelf.Slices.ReverseS
import Derived.Ground.SlgnProg
import Derived.Shelf.SlicesE.Clone
import Derived.Test.YtajcjpbfmpljkaaDoorProg
import Derived.Laws.IdiomStrings
import Derived.LoopN
import Derived.Maps.AppendAt
import Derived.Deep.CutBlock
import Derived.Laws.AppendOwn
import Derived.Orders
import Derived.RowKit3
import Derived.Lib.ItoaLen
import Derived.Deep.Slices
import Derived.Deep.Fields
set_option linter.unusedVariables false
set_option linter.unusedSimpArgs false
set_option linter.unnecessarySimpa false
namespace Go.Proofs.YtajcjpbfmpljkaaDoor
open Go.RowKit
attribute [local go_sem ↓] Go.wp_at_zero Go.wp_at_succ

/-- A list of ints that is being made longer by one number. -/
def ApN (Z : Nat) (L : List Value) (R : Nat → Prop) (w wr : World) (db da : Bool) (vb va : Value) (W : World) : Prop :=
  (da = false → Below wr.heap.size wr W ∧ (db = true → ∃ (g r : Nat), vb = .slice (some ⟨g, 0, none⟩) 1 1 ∧ W.cell? ⟨g, 0, none⟩ = some (.int .i64 (r : Int)) ∧ R r)) ∧
  (da = true → ∃ r : Nat, R r ∧ W.ownsRow Z 3 1 va (L.length + 1) (L ++ [.int .i64 (r : Int)]) ∧ Below w.heap.size w W)
theorem ApN.made {Z : Nat} {L : List Value} {R : Nat → Prop} {w wr : World} {vb va : Value} {W : World} {r : Nat} (h : ApN Z L R w wr false false vb va W) (hr : R r) :
    ApN Z L R w wr true false (.slice (some ⟨W.heap.size, 0, none⟩) 1 1) va (W.alloc (.cells #[.int .i64 (r : Int)] 3)) :=
  ⟨fun _ => ⟨below_nx (h.1 rfl).1 below_one, fun _ => ⟨_, r, rfl, (Blk.new W 3 #[.int .i64 (r : Int)]).cell 0, hr⟩⟩, fun e => by cases e⟩
theorem ApN.app {Z : Nat} {L : List Value} {R : Nat → Prop} {w wr : World} {vb va out : Value} {W : World} (h : ApN Z L R w wr true false vb va W) (hout : wr.ownsRow Z 3 1 out L.length L) (hbl : Below w.heap.size w wr) (hZ : w.heap.size ≤ Z) (hZ2 : Z ≤ wr.heap.size) (hq : L.length + 1 ≤ 1099511627776) :
    ∃ g v' w', vb = .slice (some ⟨g, 0, none⟩) 1 1 ∧ (Builtin.append_ #[30, 30] 30 #[out, .slice (some ⟨g, 0, none⟩) 1 1]).run Tryd.prog W = .ok v' w' ∧ ApN Z L R w wr true true vb v' w' := by
  obtain ⟨i0, hi, hz0, hz1, hz2⟩ := info_parts info_i64
  obtain ⟨hb, hx⟩ := h.1 rfl
  obtain ⟨g, r, e1, e2, e3⟩ := hx rfl
  have hO : W.ownsRow Z 3 1 out L.length L := hout.kept (row := none) ⟨hb.os, hb.tape, hb.output, hb.size, fun k hk _ => hb.block k hk⟩ (by cases out.ownBlock <;> simp)
  obtain ⟨v', w', r1, r2, r3, _⟩ := run_append_own W Z 30 30 3 i0 (.int .i64 0) 1 8 Tryd.underlying30 hi hz0 hz1 hz2 rfl (by decide) out L.length L hO ⟨g, 0, none⟩ 1 1 [.int .i64 (r : Int)] rfl
    (by
      intro j u hj
      match j, hj with
      | 0, hj =>
        have : u = .int .i64 (r : Int) := by simpa using hj.symm
        subst this
        exact e2
      | j + 1, hj => simp at hj) (by intro u hu; simp at hu; subst hu; rfl) (by unfold maxLen; omega) (by omega) (by have := hb.size; omega)
  refine ⟨g, v', w', e1, r1, ⟨(fun e => by cases e), fun _ => ⟨r, e3, r2, ?_⟩⟩⟩
  exact (below_nx hbl hb).grown r3 (below_nx hbl hb).size (fun k hk => by have := (hO.lt k hk).1; omega)
theorem odd_facts {x p : Nat} (hx : x < 65536) (hp : 0 < p) : ∃ q r : Nat, (x : Int).tdiv (p : Int) = (q : Int) ∧ (x : Int) / (p : Int) = (q : Int) ∧ (q : Int).tmod 2 = (r : Int) ∧ (q : Int) % 2 = (r : Int) ∧ ((p : Int) == 0) = false ∧ IntKind.i64.wrap (q : Int) = (q : Int) ∧ wrap64 (q : Int) = (q : Int) ∧ x / p % 2 = r := by
  have hq : x / p ≤ x := Nat.div_le_self x p
  have e : (x : Int) / (p : Int) = ((x / p : Nat) : Int) := (Int.natCast_ediv x p).symm
  obtain ⟨q, hqq⟩ : ∃ q, x / p = q := ⟨_, rfl⟩
  rw [hqq] at hq e ⊢
  exact ⟨q, q % 2, by rw [Int.tdiv_eq_ediv_of_nonneg (by omega)]; exact e, e, by rw [Int.tmod_eq_emod_of_nonneg (by omega)]; omega, by omega, by simp; omega, IntWalk.i64_in _ (by omega), by unfold wrap64; omega, rfl⟩
theorem ints_snoc' (l : List Nat) (x : Nat) : ints (l ++ [x]) = ints l ++ [.int .i64 (x : Int)] := by simp [ints]
theorem wr50 {z : Int} (h : z.natAbs ≤ 1125899906842624) : IntKind.i64.wrap z = z ∧ wrap64 z = z := ⟨IntWalk.i64_in _ (by omega), by unfold wrap64; omega⟩
theorem two_digs {b : List Nat} (h : Two b) : Digs 65536 b := fun x hx => by have := h x hx; omega

set_option maxRecDepth 100000 in
set_option maxHeartbeats 4000000 in
theorem rodd_any (neg : Bool) (A : Option Addr) (n c : Nat) (l : List Nat) (E : Int) (w : World) (h : Rd w A n c l) (hn : n ≤ 16777216) (hE : E.natAbs ≤ 1099511627776) :
    Calls Tryd.prog 22 #[.agg #[.bool neg, .slice A n c, .int .i64 E]] w fun e w' => ∃ (B : Option Addr) (m d9 : Nat) (b : List Nat) (E' : Int), e = .returned (.tuple #[.slice B m d9, .int .i64 E']) ∧ Rd w' B m d9 b ∧ Two b ∧ (b = [] ∨ (b.head? = some 1 ∧ b.getLast? = some 1)) ∧ dy (hv b : Int) E' = dy (ofd 65536 l : Int) (16 * E) ∧ E'.natAbs ≤ 17592186044416 + 268435456 ∧ m ≤ 268435456 ∧ Below w.heap.size w w' := by
  have H := Lib.hid h
  have hnl := h.1
  have HX0 := Lib.hid (Blk.new w 32 #[.bool neg, .slice A n c, .int .i64 E])
  have HB0 := Lib.hid ((Below.refl w.heap.size w).alloc (Nat.le_refl _) (.cells #[.bool neg, .slice A n c, .int .i64 E] 32))
  have HN := Lib.hid (And.intro hn hE)
  have HNl := Lib.hid hnl
  have hw1 : IntKind.i64.wrap ((n : Int) - 1) = (n : Int) - 1 := iwrap_in (by omega)
  have hw2 : wrap64 ((n : Int) - 1) = (n : Int) - 1 := wrap64_in (by omega)
  clear h hn hE hnl
  go_enter Tryd.func22, Tryd.ntmps22
  obtain ⟨a0, a1, a2⟩ := cells3 HX0.out
  go_wp2_with fail
  clear a0 a1 a2
  obtain ⟨g0, hg0⟩ : ∃ g0, w.heap.size = g0 := ⟨_, rfl⟩
  rw [hg0] at HX0
  rw [hg0]
  generalize (w.alloc (.cells #[.bool neg, .slice A n c, .int .i64 E] 32)) = w0 at *
  have HGz := Lib.hid hg0
  clear hg0
  go_loopw [4, 5] (fun sb i wr => ∃ (m : Nat) (bs : List Nat), m ≤ n ∧ i = .int .i64 ((m : Int) - 1) ∧ wr.ownsRow w0.heap.size 3 1 sb (ints bs).length (ints bs) ∧ Hid (Two bs ∧ bs.length = 16 * (n - m) ∧ hv bs = ofd 65536 (l.drop m)) ∧ Below w0.heap.size w0 wr) (fun _ i _ => (intOf i + 1).toNat)
  case atStart => exact ⟨n, [], Nat.le_refl _, rfl, World.ownsRow_nil _ _ _ _, Lib.hid ⟨Two.nil, by simp, by rw [HNl.out, List.drop_length]; rfl⟩, Below.refl _ _⟩
  case round =>
    obtain ⟨m, bs, hm, rfl, hO, HS, hB⟩ := hrel
    obtain ⟨wo, rfl⟩ : ∃ wo : World, wo = wr := ⟨_, rfl⟩
    have HO := Lib.hid hO
    have HB := Lib.hid hB
    clear hO hB
    by_cases hlt : 0 < m
    · obtain ⟨q, rfl⟩ : ∃ q, m = q + 1 := ⟨m - 1, by omega⟩
      have hq0 : (((q + 1 : Nat) : Int) - 1) = (q : Int) := by omega
      rw [hq0]
      have ht : decide (0 ≤ (q : Int)) = true := by simp
      have HM := Lib.hid hm
      clear hq0 hm hlt
      go_wp2_with fail
      go_loopw [4, 6] (fun sb i wr => ∃ (k : Nat) (bs : List Nat), k ≤ 16 ∧ i = .int .i64 ((k : Int) - 1) ∧ wr.ownsRow w0.heap.size 3 1 sb (ints bs).length (ints bs) ∧ Hid (Half2 l q k bs) ∧ Below w0.heap.size w0 wr) (fun _ i _ => (intOf i + 1).toNat)
      case atStart => exact ⟨16, bs, Nat.le_refl _, rfl, HO.out, Lib.hid (Half2.begin HS.out.1 (by rw [HS.out.2.1, HNl.out]) HS.out.2.2 H.out.2.2.2.1), HB.out⟩
      case round =>
        clear HO HB HS
        obtain ⟨k1, bs, hk, rfl, hO, HS, hB⟩ := hrel
        have HOw := Lib.hid hO
        have HBl := Lib.hid hB
        have HXr := Lib.hid (HX0.out.below hB HX0.out.lt)
        clear hO hB
        by_cases hlt2 : 0 < k1
        · obtain ⟨k, rfl⟩ : ∃ k, k1 = k + 1 := ⟨k1 - 1, by omega⟩
          have hk0 : (((k + 1 : Nat) : Int) - 1) = (k : Int) := by omega
          rw [hk0]
          have ht2 : decide (0 ≤ (k : Int)) = true := by simp
          have hql : q < l.length := by have := HM.out; rw [← HNl.out]; omega
          obtain ⟨b0, y0, rfl, _, hcd⟩ := H.out.2.2.1.at_ (ints_get l q hql)
          have HCd := Lib.hid (cell_below hcd (below_nx HB0.out HBl.out))
          have hx6 := H.out.2.2.2.1.get q hql
          have hStep := HS.out.step (by omega)
          rw [show l.getD q 0 = l[q] by simp [List.getD, hql]] at hStep
          obtain ⟨x, hxx⟩ : ∃ x, l[q] = x := ⟨_, rfl⟩
          rw [hxx] at hx6 hStep HCd
          obtain ⟨p, hp⟩ : ∃ p, 2 ^ k = p := ⟨_, rfl⟩
          have HPw := Lib.hid (fun W => power_any k W (by omega))
          rw [hp] at HPw hStep
          obtain ⟨qq, rr, j1, j2, j3, j4, j5, j6, j7, j8⟩ := odd_facts hx6 (show 0 < p by rw [← hp]; exact Nat.two_pow_pos k)
          rw [j8] at hStep
          have fp : ¬ p = 0 := by have := Nat.two_pow_pos k; omega
          have HStep := Lib.hid hStep
          have HLe := Lib.hid (show (ints bs).length + 1 ≤ 1099511627776 by have := HS.out.2.1; have := HN.out; rw [← HNl.out] at *; simp [ints]; omega)
          have bq1 : q < n := by have := HM.out; omega
          have bq2 : (q : Int) < (n : Int) := by omega
          have HK := Lib.hid hk
          have HWk := Lib.hid (show wrap64 ((k : Int) - 1) = (k : Int) - 1 from wrap64_in (by omega))
          clear hcd hxx hp hx6 hStep j8 hql hk0 hk hlt2
          go_wp2_with fail
          refine wp_region_inv [20, 21, 22, 23, 24, 25, 26, 27, 28, 29, 30, 31, 4] (fun d s W => (d 0 = true → s 20 = u4) ∧ (d 1 = true → s 21 = .pointer (some ⟨g0, 1, none⟩)) ∧ (d 2 = true → s 22 = .slice (some ⟨b0, y0, none⟩) n c) ∧ (d 3 = true → s 23 = .int .i64 (q : Int)) ∧ (d 4 = true → s 24 = .pointer (some ⟨b0, y0 + q, none⟩)) ∧ (d 5 = true → s 25 = .int .i64 (x : Int)) ∧ (d 6 = true → s 26 = .int .i64 (k : Int)) ∧ (d 7 = true → s 27 = .int .i64 (p : Int)) ∧ (d 8 = true → s 28 = .int .i64 (qq : Int)) ∧ (d 9 = true → s 29 = .int .i64 (rr : Int)) ∧ (d 12 = true → s 4 = s 31) ∧ (d 12 = true → d 11 = true) ∧ (d 12 = true → d 0 = true) ∧ (d 12 = false → s 4 = u4) ∧ (d 2 = true → d 1 = true) ∧ (d 4 = true → d 1 = true ∧ d 2 = true ∧ d 3 = true) ∧ (d 5 = true → d 1 = true ∧ d 2 = true ∧ d 3 = true ∧ d 4 = true) ∧ (d 7 = true → d 6 = true) ∧ (d 8 = true → d 1 = true ∧ d 2 = true ∧ d 3 = true ∧ d 4 = true ∧ d 5 = true ∧ d 6 = true ∧ d 7 = true) ∧ (d 9 = true → d 1 = true ∧ d 2 = true ∧ d 3 = true ∧ d 4 = true ∧ d 5 = true ∧ d 6 = true ∧ d 7 = true ∧ d 8 = true) ∧ (d 10 = true → d 1 = true ∧ d 2 = true ∧ d 3 = true ∧ d 4 = true ∧ d 5 = true ∧ d 6 = true ∧ d 7 = true ∧ d 8 = true ∧ d 9 = true) ∧ (d 11 = true → d 0 = true ∧ d 1 = true ∧ d 2 = true ∧ d 3 = true ∧ d 4 = true ∧ d 5 = true ∧ d 6 = true ∧ d 7 = true ∧ d 8 = true ∧ d 9 = true ∧ d 10 = true) ∧ ApN w0.heap.size (ints bs) (fun r => r = rr) w0 wr (d 10) (d 11) (s 30) (s 31) W)
            rfl (by kernel_rfl) ?_ ?_ ?_
          · exact ⟨by simp, by simp, by simp, by simp, by simp, by simp, by simp, by simp, by simp, by simp, by simp, by simp, by simp, fun _ => by simp, by simp, by simp, by simp, by simp, by simp, by simp, by simp, by simp, ⟨fun _ => ⟨(Below.refl _ _).drew, fun e => by simp at e⟩, fun e => by simp at e⟩⟩
          · refine ⟨?_, ?_, ?_, ?_, ?_, ?_, ?_, ?_, ?_, ?_, ?_, ?_, ?_, trivial⟩
            all_goals
              intro d s W hJ hfr hd hdep
              simp only [List.mem_cons, forall_eq_or_imp, List.not_mem_nil, false_implies, implies_true, and_true, Region.binds] at hdep
              have f1 := hfr 1 (by decide)
              have f5 := hfr 5 (by decide)
              have f6 := hfr 6 (by decide)
              simp at f1 f5 f6 hdep
              obtain ⟨h0, h1, h2, h3, h4, h5, h6, h7, h8, h9, h12, x0, x1, x2, x3, x4, x5, x6, x7, x8, x9, x10, hT⟩ := hJ
            · have hl : d 11 = false := by
                cases h : d 11
                · rfl
                · have := x10 h; simp [hd] at this
              have hl' := hl
              rw [hl] at hT
              unfold OpSteps
              have e4 : d 12 = false := by
                cases h : d 12
                · rfl
                · have := x1 h; simp [hd] at this
              have f4 := x2 e4
              simp [go_sem, evS, f4]
              exact ⟨fun _ => by simp [sput], fun h => by simpa [sput] using h1 (by simpa [did] using h), fun h => by simpa [sput] using h2 (by simpa [did] using h), fun h => by simpa [sput] using h3 (by simpa [did] using h), fun h => by simpa [sput] using h4 (by simpa [did] using h), fun h => by simpa [sput] using h5 (by simpa [did] using h), fun h => by simpa [sput] using h6 (by simpa [did] using h), fun h => by simpa [sput] using h7 (by simpa [did] using h), fun h => by simpa [sput] using h8 (by simpa [did] using h), fun h => by simpa [sput] using h9 (by simpa [did] using h), fun h => by simpa [sput] using h12 (by simpa [did] using h), by simpa [sput, did] using x0, fun h => by have := x1 (by simpa [did] using h); simp [did, this], fun h => by simpa [sput] using x2 (by simpa [did] using h), fun h => by have := x3 (by simpa [did] using h); simp [did, this], fun h => by have := x4 (by simpa [did] using h); simp [did, this], fun h => by have := x5 (by simpa [did] using h); simp [did, this], fun h => by have := x6 (by simpa [did] using h); simp [did, this], fun h => by have := x7 (by simpa [did] using h); simp [did, this], fun h => by have := x8 (by simpa [did] using h); simp [did, this], fun h => by have := x9 (by simpa [did] using h); simp [did, this], fun h => by have := x10 (by simpa [did] using h); simp [did, this], by simpa [did, sput, hl] using hT⟩
            · have hl : d 11 = false := by
                cases h : d 11
                · rfl
                · have := x10 h; simp [hd] at this
              have hl' := hl
              rw [hl] at hT
              unfold OpSteps
              simp [go_sem, evS, f1]
              exact ⟨fun h => by simpa [sput] using h0 (by simpa [did] using h), fun _ => by simp [sput], fun h => by simpa [sput] using h2 (by simpa [did] using h), fun h => by simpa [sput] using h3 (by simpa [did] using h), fun h => by simpa [sput] using h4 (by simpa [did] using h), fun h => by simpa [sput] using h5 (by simpa [did] using h), fun h => by simpa [sput] using h6 (by simpa [did] using h), fun h => by simpa [sput] using h7 (by simpa [did] using h), fun h => by simpa [sput] using h8 (by simpa [did] using h), fun h => by simpa [sput] using h9 (by simpa [did] using h), fun h => by simpa [sput] using h12 (by simpa [did] using h), by simpa [sput, did] using x0, fun h => by have := x1 (by simpa [did] using h); simp [did, this], fun h => by simpa [sput] using x2 (by simpa [did] using h), fun h => by have := x3 (by simpa [did] using h); simp [did, this], fun h => by have := x4 (by simpa [did] using h); simp [did, this], fun h => by have := x5 (by simpa [did] using h); simp [did, this], fun h => by have := x6 (by simpa [did] using h); simp [did, this], fun h => by have := x7 (by simpa [did] using h); simp [did, this], fun h => by have := x8 (by simpa [did] using h); simp [did, this], fun h => by have := x9 (by simpa [did] using h); simp [did, this], fun h => by have := x10 (by simpa [did] using h); simp [did, this], by simpa [did, sput, hl] using hT⟩
            · have hl : d 11 = false := by
                cases h : d 11
                · rfl
                · have := x10 h; simp [hd] at this
              have hl' := hl
              rw [hl] at hT
              have g1 := h1 (by simp [hdep])
              unfold OpSteps
              obtain ⟨p0, p1, p2⟩ := cells3 (HXr.out.below (hT.1 rfl).1 HXr.out.lt)
              simp [go_sem, evS, g1, p0, p1, p2]
              exact ⟨fun h => by simpa [sput] using h0 (by simpa [did] using h), fun h => by simpa [sput] using h1 (by simpa [did] using h), fun _ => by simp [sput], fun h => by simpa [sput] using h3 (by simpa [did] using h), fun h => by simpa [sput] using h4 (by simpa [did] using h), fun h => by simpa [sput] using h5 (by simpa [did] using h), fun h => by simpa [sput] using h6 (by simpa [did] using h), fun h => by simpa [sput] using h7 (by simpa [did] using h), fun h => by simpa [sput] using h8 (by simpa [did] using h), fun h => by simpa [sput] using h9 (by simpa [did] using h), fun h => by simpa [sput] using h12 (by simpa [did] using h), by simpa [sput, did] using x0, fun h => by have := x1 (by simpa [did] using h); simp [did, this], fun h => by simpa [sput] using x2 (by simpa [did] using h), fun _ => by simp [did, hdep], fun h => by have := x4 (by simpa [did] using h); simp [did, this], fun h => by have := x5 (by simpa [did] using h); simp [did, this], fun h => by have := x6 (by simpa [did] using h); simp [did, this], fun h => by have := x7 (by simpa [did] using h); simp [did, this], fun h => by have := x8 (by simpa [did] using h); simp [did, this], fun h => by have := x9 (by simpa [did] using h); simp [did, this], fun h => by have := x10 (by simpa [did] using h); simp [did, this], by simpa [did, sput, hl] using hT⟩
            · have hl : d 11 = false := by
                cases h : d 11
                · rfl
                · have := x10 h; simp [hd] at this
              have hl' := hl
              rw [hl] at hT
              unfold OpSteps
              simp [go_sem, evS, f5]
              exact ⟨fun h => by simpa [sput] using h0 (by simpa [did] using h), fun h => by simpa [sput] using h1 (by simpa [did] using h), fun h => by simpa [sput] using h2 (by simpa [did] using h), fun _ => by simp [sput], fun h => by simpa [sput] using h4 (by simpa [did] using h), fun h => by simpa [sput] using h5 (by simpa [did] using h), fun h => by simpa [sput] using h6 (by simpa [did] using h), fun h => by simpa [sput] using h7 (by simpa [did] using h), fun h => by simpa [sput] using h8 (by simpa [did] using h), fun h => by simpa [sput] using h9 (by simpa [did] using h), fun h => by simpa [sput] using h12 (by simpa [did] using h), by simpa [sput, did] using x0, fun h => by have := x1 (by simpa [did] using h); simp [did, this], fun h => by simpa [sput] using x2 (by simpa [did] using h), fun h => by have := x3 (by simpa [did] using h); simp [did, this], fun h => by have := x4 (by simpa [did] using h); simp [did, this], fun h => by have := x5 (by simpa [did] using h); simp [did, this], fun h => by have := x6 (by simpa [did] using h); simp [did, this], fun h => by have := x7 (by simpa [did] using h); simp [did, this], fun h => by have := x8 (by simpa [did] using h); simp [did, this], fun h => by have := x9 (by simpa [did] using h); simp [did, this], fun h => by have := x10 (by simpa [did] using h); simp [did, this], by simpa [did, sput, hl] using hT⟩
            · have hl : d 11 = false := by
                cases h : d 11
                · rfl
                · have := x10 h; simp [hd] at this
              have hl' := hl
              rw [hl] at hT
              have g2 := h2 (by simp [hdep])
              have g3 := h3 (by simp [hdep])
              unfold OpSteps
              simp [go_sem, evS, g2, g3, bq1, bq2]
              exact ⟨fun h => by simpa [sput] using h0 (by simpa [did] using h), fun h => by simpa [sput] using h1 (by simpa [did] using h), fun h => by simpa [sput] using h2 (by simpa [did] using h), fun h => by simpa [sput] using h3 (by simpa [did] using h), fun _ => by simp [sput], fun h => by simpa [sput] using h5 (by simpa [did] using h), fun h => by simpa [sput] using h6 (by simpa [did] using h), fun h => by simpa [sput] using h7 (by simpa [did] using h), fun h => by simpa [sput] using h8 (by simpa [did] using h), fun h => by simpa [sput] using h9 (by simpa [did] using h), fun h => by simpa [sput] using h12 (by simpa [did] using h), by simpa [sput, did] using x0, fun h => by have := x1 (by simpa [did] using h); simp [did, this], fun h => by simpa [sput] using x2 (by simpa [did] using h), fun h => by have := x3 (by simpa [did] using h); simp [did, this], fun _ => by have y2 := x3 (by simp [hdep]); simp [did, hdep, y2], fun h => by have := x5 (by simpa [did] using h); simp [did, this], fun h => by have := x6 (by simpa [did] using h); simp [did, this], fun h => by have := x7 (by simpa [did] using h); simp [did, this], fun h => by have := x8 (by simpa [did] using h); simp [did, this], fun h => by have := x9 (by simpa [did] using h); simp [did, this], fun h => by have := x10 (by simpa [did] using h); simp [did, this], by simpa [did, sput, hl] using hT⟩
            · have hl : d 11 = false := by
                cases h : d 11
                · rfl
                · have := x10 h; simp [hd] at this
              have hl' := hl
              rw [hl] at hT
              have g4 := h4 (by simp [hdep])
              unfold OpSteps
              have pc := cell_below HCd.out (hT.1 rfl).1
              simp [go_sem, evS, g4, pc]
              exact ⟨fun h => by simpa [sput] using h0 (by simpa [did] using h), fun h => by simpa [sput] using h1 (by simpa [did] using h), fun h => by simpa [sput] using h2 (by simpa [did] using h), fun h => by simpa [sput] using h3 (by simpa [did] using h), fun h => by simpa [sput] using h4 (by simpa [did] using h), fun _ => by simp [sput], fun h => by simpa [sput] using h6 (by simpa [did] using h), fun h => by simpa [sput] using h7 (by simpa [did] using h), fun h => by simpa [sput] using h8 (by simpa [did] using h), fun h => by simpa [sput] using h9 (by simpa [did] using h), fun h => by simpa [sput] using h12 (by simpa [did] using h), by simpa [sput, did] using x0, fun h => by have := x1 (by simpa [did] using h); simp [did, this], fun h => by simpa [sput] using x2 (by simpa [did] using h), fun h => by have := x3 (by simpa [did] using h); simp [did, this], fun h => by have := x4 (by simpa [did] using h); simp [did, this], fun _ => by have y4 := x4 (by simp [hdep]); simp [did, hdep, y4], fun h => by have := x6 (by simpa [did] using h); simp [did, this], fun h => by have := x7 (by simpa [did] using h); simp [did, this], fun h => by have := x8 (by simpa [did] using h); simp [did, this], fun h => by have := x9 (by simpa [did] using h); simp [did, this], fun h => by have := x10 (by simpa [did] using h); simp [did, this], by simpa [did, sput, hl] using hT⟩
            · have hl : d 11 = false := by
                cases h : d 11
                · rfl
                · have := x10 h; simp [hd] at this
              have hl' := hl
              rw [hl] at hT
              unfold OpSteps
              simp [go_sem, evS, f6]
              exact ⟨fun h => by simpa [sput] using h0 (by simpa [did] using h), fun h => by simpa [sput] using h1 (by simpa [did] using h), fun h => by simpa [sput] using h2 (by simpa [did] using h), fun h => by simpa [sput] using h3 (by simpa [did] using h), fun h => by simpa [sput] using h4 (by simpa [did] using h), fun h => by simpa [sput] using h5 (by simpa [did] using h), fun _ => by simp [sput], fun h => by simpa [sput] using h7 (by simpa [did] using h), fun h => by simpa [sput] using h8 (by simpa [did] using h), fun h => by simpa [sput] using h9 (by simpa [did] using h), fun h => by simpa [sput] using h12 (by simpa [did] using h), by simpa [sput, did] using x0, fun h => by have := x1 (by simpa [did] using h); simp [did, this], fun h => by simpa [sput] using x2 (by simpa [did] using h), fun h => by have := x3 (by simpa [did] using h); simp [did, this], fun h => by have := x4 (by simpa [did] using h); simp [did, this], fun h => by have := x5 (by simpa [did] using h); simp [did, this], fun h => by have := x6 (by simpa [did] using h); simp [did, this], fun h => by have := x7 (by simpa [did] using h); simp [did, this], fun h => by have := x8 (by simpa [did] using h); simp [did, this], fun h => by have := x9 (by simpa [did] using h); simp [did, this], fun h => by have := x10 (by simpa [did] using h); simp [did, this], by simpa [did, sput, hl] using hT⟩
            · have hl : d 11 = false := by
                cases h : d 11
                · rfl
                · have := x10 h; simp [hd] at this
              have hl' := hl
              rw [hl] at hT
              have g6 := h6 (by simp [hdep])
              unfold OpSteps
              simp [go_sem, evS, g6]
              refine (HPw.out W).mono ?_
              rintro e W' ⟨rfl, rfl⟩
              refine ⟨_, rfl, ?_⟩
              exact ⟨fun h => by simpa [sput] using h0 (by simpa [did] using h), fun h => by simpa [sput] using h1 (by simpa [did] using h), fun h => by simpa [sput] using h2 (by simpa [did] using h), fun h => by simpa [sput] using h3 (by simpa [did] using h), fun h => by simpa [sput] using h4 (by simpa [did] using h), fun h => by simpa [sput] using h5 (by simpa [did] using h), fun h => by simpa [sput] using h6 (by simpa [did] using h), fun _ => by simp [sput], fun h => by simpa [sput] using h8 (by simpa [did] using h), fun h => by simpa [sput] using h9 (by simpa [did] using h), fun h => by simpa [sput] using h12 (by simpa [did] using h), by simpa [sput, did] using x0, fun h => by have := x1 (by simpa [did] using h); simp [did, this], fun h => by simpa [sput] using x2 (by simpa [did] using h), fun h => by have := x3 (by simpa [did] using h); simp [did, this], fun h => by have := x4 (by simpa [did] using h); simp [did, this], fun h => by have := x5 (by simpa [did] using h); simp [did, this], fun _ => by simp [did, hdep], fun h => by have := x7 (by simpa [did] using h); simp [did, this], fun h => by have := x8 (by simpa [did] using h); simp [did, this], fun h => by have := x9 (by simpa [did] using h); simp [did, this], fun h => by have := x10 (by simpa [did] using h); simp [did, this], by simpa [did, sput, hl] using hT⟩
            · have hl : d 11 = false := by
                cases h : d 11
                · rfl
                · have := x10 h; simp [hd] at this
              have hl' := hl
              rw [hl] at hT
              have g5 := h5 (by simp [hdep])
              have g7 := h7 (by simp [hdep])
              unfold OpSteps
              simp [go_sem, evS, g5, g7, j1, j2, j5, j6, j7, fp]
              exact ⟨fun h => by simpa [sput] using h0 (by simpa [did] using h), fun h => by simpa [sput] using h1 (by simpa [did] using h), fun h => by simpa [sput] using h2 (by simpa [did] using h), fun h => by simpa [sput] using h3 (by simpa [did] using h), fun h => by simpa [sput] using h4 (by simpa [did] using h), fun h => by simpa [sput] using h5 (by simpa [did] using h), fun h => by simpa [sput] using h6 (by simpa [did] using h), fun h => by simpa [sput] using h7 (by simpa [did] using h), fun _ => by simp [sput, j6], fun h => by simpa [sput] using h9 (by simpa [did] using h), fun h => by simpa [sput] using h12 (by simpa [did] using h), by simpa [sput, did] using x0, fun h => by have := x1 (by simpa [did] using h); simp [did, this], fun h => by simpa [sput] using x2 (by simpa [did] using h), fun h => by have := x3 (by simpa [did] using h); simp [did, this], fun h => by have := x4 (by simpa [did] using h); simp [did, this], fun h => by have := x5 (by simpa [did] using h); simp [did, this], fun h => by have := x6 (by simpa [did] using h); simp [did, this], fun _ => by have y5 := x5 (by simp [hdep]); have y7 := x6 (by simp [hdep]); simp [did, hdep, y5, y7], fun h => by have := x8 (by simpa [did] using h); simp [did, this], fun h => by have := x9 (by simpa [did] using h); simp [did, this], fun h => by have := x10 (by simpa [did] using h); simp [did, this], by simpa [did, sput, hl] using hT⟩
            · have hl : d 11 = false := by
                cases h : d 11
                · rfl
                · have := x10 h; simp [hd] at this
              have hl' := hl
              rw [hl] at hT
              have g8 := h8 (by simp [hdep])
              unfold OpSteps
              simp [go_sem, evS, g8, j3, j4]
              exact ⟨fun h => by simpa [sput] using h0 (by simpa [did] using h), fun h => by simpa [sput] using h1 (by simpa [did] using h), fun h => by simpa [sput] using h2 (by simpa [did] using h), fun h => by simpa [sput] using h3 (by simpa [did] using h), fun h => by simpa [sput] using h4 (by simpa [did] using h), fun h => by simpa [sput] using h5 (by simpa [did] using h), fun h => by simpa [sput] using h6 (by simpa [did] using h), fun h => by simpa [sput] using h7 (by simpa [did] using h), fun h => by simpa [sput] using h8 (by simpa [did] using h), fun _ => by simp [sput], fun h => by simpa [sput] using h12 (by simpa [did] using h), by simpa [sput, did] using x0, fun h => by have := x1 (by simpa [did] using h); simp [did, this], fun h => by simpa [sput] using x2 (by simpa [did] using h), fun h => by have := x3 (by simpa [did] using h); simp [did, this], fun h => by have := x4 (by simpa [did] using h); simp [did, this], fun h => by have := x5 (by simpa [did] using h); simp [did, this], fun h => by have := x6 (by simpa [did] using h); simp [did, this], fun h => by have := x7 (by simpa [did] using h); simp [did, this], fun _ => by have y8 := x7 (by simp [hdep]); simp [did, hdep, y8], fun h => by have := x9 (by simpa [did] using h); simp [did, this], fun h => by have := x10 (by simpa [did] using h); simp [did, this], by simpa [did, sput, hl] using hT⟩
            · have hl : d 11 = false := by
                cases h : d 11
                · rfl
                · have := x10 h; simp [hd] at this
              have hl' := hl
              rw [hl] at hT
              have g9 := h9 (by simp [hdep])
              unfold OpSteps
              simp [go_sem, evS, g9]
              exact ⟨fun h => by simpa [sput] using h0 (by simpa [did] using h), fun h => by simpa [sput] using h1 (by simpa [did] using h), fun h => by simpa [sput] using h2 (by simpa [did] using h), fun h => by simpa [sput] using h3 (by simpa [did] using h), fun h => by simpa [sput] using h4 (by simpa [did] using h), fun h => by simpa [sput] using h5 (by simpa [did] using h), fun h => by simpa [sput] using h6 (by simpa [did] using h), fun h => by simpa [sput] using h7 (by simpa [did] using h), fun h => by simpa [sput] using h8 (by simpa [did] using h), fun h => by simpa [sput] using h9 (by simpa [did] using h), fun h => by simpa [sput] using h12 (by simpa [did] using h), by simpa [sput, did] using x0, fun h => by have := x1 (by simpa [did] using h); simp [did, this], fun h => by simpa [sput] using x2 (by simpa [did] using h), fun h => by have := x3 (by simpa [did] using h); simp [did, this], fun h => by have := x4 (by simpa [did] using h); simp [did, this], fun h => by have := x5 (by simpa [did] using h); simp [did, this], fun h => by have := x6 (by simpa [did] using h); simp [did, this], fun h => by have := x7 (by simpa [did] using h); simp [did, this], fun h => by have := x8 (by simpa [did] using h); simp [did, this], fun _ => by have y9 := x8 (by simp [hdep]); simp [did, hdep, y9], fun h => by have := x10 (by simpa [did] using h); simp [did, this], by rw [hd] at hT; simpa [did, sput, hl] using hT.made rfl⟩
            · have g0 := h0 (by simp [hdep])
              have hd10 : d 10 = true := by simp [hdep]
              rw [hd10, hd] at hT
              obtain ⟨g, v', w', ga, gb, gc⟩ := hT.app HOw.out HBl.out (Nat.le_refl _) HBl.out.size HLe.out
              refine opSteps_append _ _ _ rfl (by simp only [evS]; exact g0) (by simp only [evS]; exact ga) gb ?_
              exact ⟨fun h => by simpa [sput] using h0 (by simpa [did] using h), fun h => by simpa [sput] using h1 (by simpa [did] using h), fun h => by simpa [sput] using h2 (by simpa [did] using h), fun h => by simpa [sput] using h3 (by simpa [did] using h), fun h => by simpa [sput] using h4 (by simpa [did] using h), fun h => by simpa [sput] using h5 (by simpa [did] using h), fun h => by simpa [sput] using h6 (by simpa [did] using h), fun h => by simpa [sput] using h7 (by simpa [did] using h), fun h => by simpa [sput] using h8 (by simpa [did] using h), fun h => by simpa [sput] using h9 (by simpa [did] using h), fun h => by have := x0 (by simpa [did] using h); simp [hd] at this, fun _ => by simp [did], fun h => by have := x1 (by simpa [did] using h); simp [did, this], fun h => by simpa [sput] using x2 (by simpa [did] using h), fun h => by have := x3 (by simpa [did] using h); simp [did, this], fun h => by have := x4 (by simpa [did] using h); simp [did, this], fun h => by have := x5 (by simpa [did] using h); simp [did, this], fun h => by have := x6 (by simpa [did] using h); simp [did, this], fun h => by have := x7 (by simpa [did] using h); simp [did, this], fun h => by have := x8 (by simpa [did] using h); simp [did, this], fun h => by have := x9 (by simpa [did] using h); simp [did, this], fun _ => by have y10 := x9 (by simp [hdep]); simp [did, hdep, y10], by simpa [did, sput, hd10, ga] using gc⟩
            · unfold OpSteps
              simp [go_sem, evS]
              exact ⟨fun h => by simpa [sput] using h0 (by simpa [did] using h), fun h => by simpa [sput] using h1 (by simpa [did] using h), fun h => by simpa [sput] using h2 (by simpa [did] using h), fun h => by simpa [sput] using h3 (by simpa [did] using h), fun h => by simpa [sput] using h4 (by simpa [did] using h), fun h => by simpa [sput] using h5 (by simpa [did] using h), fun h => by simpa [sput] using h6 (by simpa [did] using h), fun h => by simpa [sput] using h7 (by simpa [did] using h), fun h => by simpa [sput] using h8 (by simpa [did] using h), fun h => by simpa [sput] using h9 (by simpa [did] using h), fun _ => by simp [sput], fun _ => by simp [did, hdep], fun _ => by first | simp [did, hdep] | (have := x10 (by simp [hdep]); simp [did, this]), fun h => by simp [did] at h, fun h => by have := x3 (by simpa [did] using h); simp [did, this], fun h => by have := x4 (by simpa [did] using h); simp [did, this], fun h => by have := x5 (by simpa [did] using h); simp [did, this], fun h => by have := x6 (by simpa [did] using h); simp [did, this], fun h => by have := x7 (by simpa [did] using h); simp [did, this], fun h => by have := x8 (by simpa [did] using h); simp [did, this], fun h => by have := x9 (by simpa [did] using h); simp [did, this], fun h => by have := x10 (by simpa [did] using h); simp [did, this], by simpa [did, sput] using hT⟩
          intro d s W hJ hd
          obtain ⟨h0, h1, h2, h3, h4, h5, h6, h7, h8, h9, h12, x0, x1, x2, x3, x4, x5, x6, x7, x8, x9, x10, hT⟩ := hJ
          have hs4 : s 4 = s 31 := h12 (hd 12 (by decide))
          have hA := hT.2 (hd 11 (by decide))
          clear h0 h1 h2 h3 h4 h5 h6 h7 h8 h9 h12 x0 x1 x2 x3 x4 x5 x6 x7 x8 x9 x10 hT hd
          obtain ⟨r9, hr9, hown, hbl⟩ := hA
          rw [hr9] at hown
          clear hr9
          have HOw2 := Lib.hid hown
          have HBl2 := Lib.hid hbl
          clear hown hbl
          simp [setAll, hs4]
          clear hs4
          generalize s 20 = s20
          generalize s 21 = s21
          generalize s 22 = s22
          generalize s 23 = s23
          generalize s 24 = s24
          generalize s 25 = s25
          generalize s 26 = s26
          generalize s 27 = s27
          generalize s 28 = s28
          generalize s 29 = s29
          generalize s 30 = s30
          generalize s 31 = s31 at *
          go_wp2_with fail
          go_roundw
          case rel => exact ⟨k, bs ++ [rr], by have := HK.out; omega, by rw [HWk.out], by rw [ints_snoc', List.length_append]; exact HOw2.out, HStep, HBl2.out⟩
          case measure => rw [HWk.out]; simp [intOf] <;> omega
        · obtain rfl : k1 = 0 := by omega
          have ht2 : decide (0 ≤ ((0 : Nat) : Int) - 1) = false := by decide
          have HNx := Lib.hid (HS.out.next (by have := HM.out; rw [← HNl.out]; omega))
          have HWq := Lib.hid (show wrap64 ((q : Int) - 1) = (q : Int) - 1 from wrap64_in (by have := HM.out; have := HN.out; omega))
          clear hlt2 hk
          go_wp2_with fail
          go_roundw
          case rel => exact ⟨q, bs, by have := HM.out; omega, by rw [HWq.out], HOw.out, Lib.hid ⟨HNx.out.1, by rw [HNx.out.2.1, HNl.out], HNx.out.2.2⟩, HBl.out⟩
          case measure => rw [HWq.out]; simp [intOf] <;> omega
    · obtain rfl : m = 0 := by omega
      have ht : decide (0 ≤ ((0 : Nat) : Int) - 1) = false := by decide
      have HX := Lib.hid (HX0.out.below HB.out HX0.out.lt)
      obtain ⟨a0, a1, a2⟩ := cells3 HX.out
      obtain ⟨B, cb, rfl, hRb, hcb⟩ := own_rd (n := (ints bs).length) HO.out (two_digs HS.out.1)
      have hw3 : IntKind.i64.wrap (E * 16) = E * 16 := (wr50 (by have := HN.out; omega)).1
      have hw4 : wrap64 (E * 16) = E * 16 := (wr50 (by have := HN.out; omega)).2
      have HRb := Lib.hid hRb
      have HSb := Lib.hid (show Two bs ∧ hv bs = ofd 65536 l from ⟨HS.out.1, by have := HS.out.2.2; rwa [List.drop_zero] at this⟩)
      have HLb := Lib.hid (show (ints bs).length ≤ 268435456 by have := HS.out.2.1; have := HN.out; simp [ints]; omega)
      have hsz : (ints bs).length = (ints bs).length := rfl
      obtain ⟨nb, hnb⟩ : ∃ nb, (ints bs).length = nb := ⟨_, rfl⟩
      rw [hnb] at HLb
      rw [hnb]
      have HRb2 := Lib.hid (show Rd wo B nb cb bs from ⟨by rw [← hnb]; simp [ints], by rw [← hnb]; have := HRb.out.2.1; simpa [ints] using this, HRb.out.2.2.1, HRb.out.2.2.2.1, HRb.out.2.2.2.2⟩)
      clear hlt hm hRb hnb hsz HRb HO HS
      go_upto_block 4 with fail
      go_cut [4] (fun a wx => ∃ (A' : Option Addr) (n' c' : Nat) (b' : List Nat), a = .slice A' n' c' ∧ Hid (n' ≤ nb ∧ Rd wo A' n' c' b' ∧ Two b' ∧ hv b' = ofd 65536 l ∧ b'.head? ≠ some 0 ∧ c' ≤ 9223372036854775807) ∧ wx = wo)
      case first =>
        go_wp2_with fail
        go_loop [4] (fun a => ∃ (A' : Option Addr) (n' c' : Nat) (b' : List Nat), a = .slice A' n' c' ∧ Hid (n' ≤ nb ∧ Rd wo A' n' c' b' ∧ Two b' ∧ hv b' = ofd 65536 l ∧ c' ≤ 9223372036854775807)) (fun a => match a with | .slice _ n _ => n | _ => 0)
        case atStart => exact ⟨B, nb, cb, bs, rfl, Lib.hid ⟨Nat.le_refl _, HRb2.out, HSb.out.1, HSb.out.2, hcb⟩⟩
        case round =>
          obtain ⟨A', n', c', b', rfl, HR⟩ := hrel
          cases b' with
          | nil =>
            have h0 : n' = 0 := HR.out.2.1.1
            subst h0
            go_wp2_with fail
            go_meet
            exact ⟨A', 0, c', [], rfl, Lib.hid ⟨Nat.zero_le _, HR.out.2.1, Two.nil, HR.out.2.2.2.1, by simp, HR.out.2.2.2.2⟩, rfl⟩
          | cons d t =>
            obtain ⟨b, o, rfl, hcell⟩ := HR.out.2.1.at0
            obtain ⟨k, rfl⟩ : ∃ k, n' = k + 1 := ⟨t.length, HR.out.2.1.1⟩
            by_cases hd : d = 0
            · have ht : ((d : Int) == 0) = true := by simp [hd]
              have HD0 := Lib.hid hd
              clear hd
              go_wp2_with fail
              go_round
              case rel => exact ⟨_, k, c' - 1, t, rfl, Lib.hid ⟨by have := HR.out.1; omega, HR.out.2.1.tail_, HR.out.2.2.1.tail, by have := HR.out.2.2.2.1; rw [HD0.out, hv_zero] at this; exact this, by have := HR.out.2.2.2.2; omega⟩⟩
              case measure => simp
            · have ht : ((d : Int) == 0) = false := by simp; omega
              have HD0 := Lib.hid hd
              clear hd
              go_wp2_with fail
              go_meet
              exact ⟨_, k + 1, c', d :: t, rfl, Lib.hid ⟨HR.out.1, HR.out.2.1, HR.out.2.2.1, HR.out.2.2.2.1, by simpa using HD0.out, HR.out.2.2.2.2⟩, rfl⟩
      case rest =>
        obtain ⟨A', n', c', b', rfl, HR, rfl⟩ := hcut
        go_wp2_with fail
        go_loop [4, 7] (fun a e => ∃ (A'' : Option Addr) (n'' c'' : Nat) (b'' : List Nat) (E' : Int), a = .slice A'' n'' c'' ∧ e = .int .i64 E' ∧ Hid (E'.natAbs + n'' ≤ 17592186044416 + nb ∧ n'' ≤ nb ∧ c'' ≤ 9223372036854775807) ∧ Hid (Rd wc A'' n'' c'' b'' ∧ Two b'' ∧ dy (hv b'' : Int) E' = dy (ofd 65536 l : Int) (16 * E) ∧ b''.head? ≠ some 0)) (fun a _ => match a with | .slice _ n _ => n | _ => 0)
        case atStart => exact ⟨A', n', c', b', E * 16, rfl, rfl, Lib.hid ⟨by have := HN.out; have := HR.out.1; omega, HR.out.1, HR.out.2.2.2.2.2⟩, Lib.hid ⟨HR.out.2.1, HR.out.2.2.1, by rw [HR.out.2.2.2.1, Int.mul_comm], HR.out.2.2.2.2.1⟩⟩
        case round =>
          obtain ⟨A'', n'', c'', b'', E', rfl, rfl, HE, HS⟩ := hrel
          rcases List.eq_nil_or_concat b'' with rfl | ⟨t, d, rfl⟩
          · have h0 : n'' = 0 := HS.out.1.1
            subst h0
            go_wp2_with fail
            go_ret2
            exact ⟨A'', 0, c'', [], E', rfl, HS.out.1, Two.nil, .inl rfl, HS.out.2.2.1, by have := HE.out; have := HLb.out; omega, Nat.zero_le _, below_nx HB0.out HB.out⟩
          · rw [List.concat_eq_append] at HS
            obtain ⟨b, o, rfl, hcell⟩ := HS.out.1.last
            obtain ⟨k, hk⟩ : ∃ k, t.length = k := ⟨_, rfl⟩
            have hn2 : n'' = k + 1 := by have := HS.out.1.1; simp at this; omega
            subst hn2
            rw [hk] at hcell
            have hkc : (k : Int) ≤ (c'' : Int) := by have := HS.out.1.2.1; omega
            have hkc2 : k ≤ c'' := by omega
            have HK := Lib.hid hk
            clear hk
            have hd2 : d < 2 := HS.out.2.1 d (by simp)
            have hkb : k ≤ 268435456 := by have := HE.out; have := HLb.out; omega
            by_cases hd : d = 0
            · have ht : ((d : Int) == 0) = true := by simp [hd]
              have HD0 := Lib.hid hd
              have HWE := Lib.hid (show wrap64 (E' + 1) = E' + 1 from (wr50 (by have := HE.out; have := HLb.out; omega)).2)
              clear hd hd2
              go_wp2_with fail
              go_round
              case rel => exact ⟨_, k, c'', t, E' + 1, rfl, by rw [HWE.out], Lib.hid ⟨by have := HE.out; omega, by have := HE.out; omega, HE.out.2.2⟩, Lib.hid ⟨by have := HS.out.1.init; rw [HK.out] at this; exact this, HS.out.2.1.init, by
                have := HS.out.2.2.1
                rw [HD0.out, hv_last] at this
                rw [← this, show ((2 * hv t : Nat) : Int) = (hv t : Int) * 2 ^ 1 by omega, dy_pow]; rfl, by
                have := HS.out.2.2.2
                cases t with
                | nil => rw [HD0.out] at this; simp at this
                | cons x u => simpa using this⟩⟩
              case measure => simp
            · have ht : ((d : Int) == 0) = false := by simp; omega
              have HD1 := Lib.hid (show d = 1 by omega)
              clear hd hd2
              go_wp2_with fail
              go_ret2
              refine ⟨_, k + 1, c'', t ++ [d], E', rfl, HS.out.1, HS.out.2.1, .inr ⟨?_, by simp [HD1.out]⟩, HS.out.2.2.1, by have := HE.out; have := HLb.out; omega, by have := HE.out; have := HLb.out; omega, below_nx HB0.out HB.out⟩
              have h1 := HS.out.2.2.2
              cases t with
              | nil => simp [HD1.out]
              | cons x u =>
                have h2 := HS.out.2.1 x (by simp)
                simp at h1 ⊢
                omega

end Go.Proofs.YtajcjpbfmpljkaaDoor
set_option linter.unusedVariables false
namespace Go.Proofs.YtajcjpbfmpljkaaDoor

/-- The text of a number, by its odd part's binary digits. -/
theorem txt_odd {neg : Bool} {b : List Nat} {e : Int} (hT : Two b) (h1 : b.head? = some 1) (h2 : b.getLast? = some 1) :
    txt (dy (sgd neg (hv b)) e) = (if neg = true then [45] else []) ++ hexN (hv b) ++ [112] ++ Lib.itoa e := by
  have ho := hv_odd h2
  have hm : sgd neg (hv b) % 2 = 1 := by unfold sgd; split <;> omega
  unfold txt
  rw [mant_dy _ _ hm, expo_dy _ _ hm]
  have h0 : sgd neg (hv b) ≠ 0 := by omega
  rw [if_neg h0, show (sgd neg (hv b)).natAbs = hv b by unfold sgd; split <;> simp]
  congr 3
  unfold ng sgd
  cases neg
  · simp
  · have : hv b ≠ 0 := by omega
    simp; omega
end Go.Proofs.YtajcjpbfmpljkaaDoor
set_option linter.unusedVariables false
namespace Go.Proofs.YtajcjpbfmpljkaaDoor
open Go.RowKit
attribute [local go_sem ↓] Go.wp_at_zero Go.wp_at_succ

set_option maxHeartbeats 1000000 in
theorem rint_any (k : Int) (w : World) (h0 : -9223372036854775808 ≤ k) (h1 : k ≤ 9223372036854775807) :
    Calls Tryd.prog 7 #[.int .i64 k] w (RetR (dy k 0) w) := by
  obtain ⟨D, hD⟩ : ∃ D, dy k 0 = D := ⟨_, rfl⟩
  rw [hD]
  by_cases hk : k < 0
  · obtain ⟨m, hm⟩ : ∃ m : Nat, k = -(m : Int) := ⟨k.natAbs, by omega⟩
    have hDm : dy (if true = true then -(m : Int) else (m : Int)) 0 = D := by rw [← hD, hm]; rfl
    have hm1 : m < 18446744073709551616 := by omega
    have hmp : 1 ≤ m := by omega
    have hmq : m ≤ 9223372036854775808 := by omega
    have HD := Lib.hid (show ∀ W, Calls Tryd.prog 21 #[.bool true, .int .u64 (m : Int)] W (RetR D W) from fun W => by rw [← hDm]; exact whole_any true m W hm1)
    subst hm
    clear hD hDm hk h0 h1
    have e0 : (-(m : Int) < 0) := by omega
    have e1 : IntKind.i64.wrap (-(-(m : Int) + 1)) = ((m - 1 : Nat) : Int) := by rw [IntWalk.i64_in _ (by omega)]; omega
    go_enter Tryd.func7, Tryd.ntmps7
    go_wp2_with fail
    rw [show ((m - 1 : Nat) : Int) + 1 = (m : Int) by omega]
    refine (HD.out _).mono ?_
    rintro e w2 ⟨ng', A', n', c', E, L', rfl, hR', hN, hd, hb⟩
    have hB2 := (Blk.new w 32 #[.bool false, .slice none 0 0, .int .i64 0]).next hb
    have HB2 := Lib.hid hB2
    have f0 := hB2.frozen 0
    have f1 := hB2.frozen 1
    have f2 := hB2.frozen 2
    obtain ⟨r0, r1, r2⟩ := cells3 hB2
    have HR := Lib.hid hR'
    have HN := Lib.hid hN
    have HDd := Lib.hid hd
    have HBl := Lib.hid (((Below.refl w.heap.size w).alloc (Nat.le_refl _) (.cells #[.bool false, .slice none 0 0, .int .i64 0] 32)).trans (hb.mono (by simp)))
    clear hb hB2 hR' hN hd
    go_wp2_with fail
    obtain ⟨q0, q1, q2⟩ := cells3 (Blk.store3 HB2.out (.bool ng') (.slice A' n' c') (.int .i64 E))
    exact bodyPost_ret (v := .agg #[.bool ng', .slice A' n' c', .int .i64 E]) (by simp [results, Tryd.results7, go_sem, q0, q1, q2]) rfl
      ⟨ng', A', n', c', E, L', rfl, Rd.store3 HR.out HN.out HB2.out _ _ _, HN.out, HDd.out, ((HBl.out.setCell (p := ⟨w.heap.size, 0, none⟩) (Nat.le_refl _) _).setCell (p := ⟨w.heap.size, 1, none⟩) (Nat.le_refl _) _).setCell (p := ⟨w.heap.size, 2, none⟩) (Nat.le_refl _) _⟩
  · obtain ⟨m, hm⟩ : ∃ m : Nat, k = (m : Int) := ⟨k.natAbs, by omega⟩
    have hDm : dy (if false = true then -(m : Int) else (m : Int)) 0 = D := by rw [← hD, hm]; rfl
    have hm1 : m < 18446744073709551616 := by omega
    have hmq : m ≤ 9223372036854775807 := by omega
    have HD := Lib.hid (show ∀ W, Calls Tryd.prog 21 #[.bool false, .int .u64 (m : Int)] W (RetR D W) from fun W => by rw [← hDm]; exact whole_any false m W hm1)
    subst hm
    clear hD hDm hk h0 h1
    have e0 : ¬ ((m : Int) < 0) := by omega
    go_enter Tryd.func7, Tryd.ntmps7
    go_wp2_with fail
    refine (HD.out _).mono ?_
    rintro e w2 ⟨ng', A', n', c', E, L', rfl, hR', hN, hd, hb⟩
    have hB2 := (Blk.new w 32 #[.bool false, .slice none 0 0, .int .i64 0]).next hb
    have HB2 := Lib.hid hB2
    have f0 := hB2.frozen 0
    have f1 := hB2.frozen 1
    have f2 := hB2.frozen 2
    obtain ⟨r0, r1, r2⟩ := cells3 hB2
    have HR := Lib.hid hR'
    have HN := Lib.hid hN
    have HDd := Lib.hid hd
    have HBl := Lib.hid (((Below.refl w.heap.size w).alloc (Nat.le_refl _) (.cells #[.bool false, .slice none 0 0, .int .i64 0] 32)).trans (hb.mono (by simp)))
    clear hb hB2 hR' hN hd
    go_wp2_with fail
    obtain ⟨q0, q1, q2⟩ := cells3 (Blk.store3 HB2.out (.bool ng') (.slice A' n' c') (.int .i64 E))
    exact bodyPost_ret (v := .agg #[.bool ng', .slice A' n' c', .int .i64 E]) (by simp [results, Tryd.results7, go_sem, q0, q1, q2]) rfl
      ⟨ng', A', n', c', E, L', rfl, Rd.store3 HR.out HN.out HB2.out _ _ _, HN.out, HDd.out, ((HBl.out.setCell (p := ⟨w.heap.size, 0, none⟩) (Nat.le_refl _) _).setCell (p := ⟨w.heap.size, 1, none⟩) (Nat.le_refl _) _).setCell (p := ⟨w.heap.size, 2, none⟩) (Nat.le_refl _) _⟩
end Go.Proofs.YtajcjpbfmpljkaaDoor
set_option linter.unusedVariables false
namespace Go.Proofs.YtajcjpbfmpljkaaDoor
open Go.RowKit
attribute [local go_sem ↓] Go.wp_at_zero Go.wp_at_succ

theorem one_back (W : World) (c : UInt8) : (convert 43 9 (.slice (some ⟨W.heap.size, 0, none⟩) 1 1)).run Tryd.prog (W.alloc (.cells #[.int .u8 (c.toNat : Int)] 5)) = .ok (.string ⟨#[c]⟩) (W.alloc (.cells #[.int .u8 (c.toNat : Int)] 5)) := by
  have h := run_convert_bytes_back (P := Tryd.prog) (W.alloc (.cells #[.int .u8 (c.toNat : Int)] 5)) 43 9 5 ⟨W.heap.size, 0, none⟩ 1 [c] Tryd.underlying43 Tryd.underlying5 Tryd.underlying9 (by
    intro j hj
    have : j = 0 := by simpa using hj
    subst this
    simp [Addr.add])
  exact h
theorem dig_byte (d : Nat) (h : d < 10) : 48 + (d : Int) = ((UInt8.ofNat (48 + d)).toNat : Int) := by
  have : ∀ d : Fin 10, 48 + (d.val : Int) = ((UInt8.ofNat (48 + d.val)).toNat : Int) := by decide
  exact this ⟨d, h⟩
theorem cons_text (c : UInt8) (t : List UInt8) : (⟨#[c]⟩ ++ ⟨t.toArray⟩ : ByteArray) = ⟨(c :: t).toArray⟩ := by
  apply ByteArray.ext
  rw [ByteArray.data_append]
  simp
theorem dec_big {u : Nat} (h : ¬ u < 10) : Lib.decDigits u = Lib.decDigits (u / 10) ++ [UInt8.ofNat (48 + u % 10)] := by rw [Lib.decDigits, dif_neg h]
/-- What is left of a number, and its digits so far. -/
def DPart (x X : Nat) (t : List UInt8) : Prop := Lib.decDigits X ++ t = Lib.decDigits x ∧ t.length ≤ 30 ∧ X * 10 ^ t.length ≤ x

set_option maxHeartbeats 1000000 in
set_option maxRecDepth 100000 in
theorem digits_pos (x : Nat) (w : World) (hx : x ≤ 1000000000000000000) :
    Calls Tryd.prog 23 #[.int .i64 (x : Int)] w fun e w' => e = .returned (.string ⟨(Lib.decDigits x).toArray⟩) ∧ Below w.heap.size w w' := by
  have HXx := Lib.hid hx
  clear hx
  go_enter Tryd.func23, Tryd.ntmps23
  go_wp2_with fail
  go_loopw [0, 3] (fun a s wr => ∃ (X : Nat) (t : List UInt8), a = .int .i64 (X : Int) ∧ X ≤ 1000000000000000000 ∧ t.length ≤ 30 ∧ s = .string ⟨t.toArray⟩ ∧ Hid (DPart x X t) ∧ Below w.heap.size w wr) (fun a _ _ => (intOf a).toNat)
  case atStart => exact ⟨x, [], rfl, HXx.out, by simp, rfl, Lib.hid ⟨by simp, by simp, by simp⟩, Below.refl _ _⟩
  case round =>
    obtain ⟨X, t, rfl, hX, ht, rfl, HP, hbl⟩ := hrel
    have HX := Lib.hid hX
    clear hX
    by_cases h10 : 10 ≤ X
    · have hd : decide (10 ≤ (X : Int)) = true := by simp; omega
      have h11 := Lib.hid h10
      clear h10
      have hlen : 1 + t.length ≤ 9223372036854775807 := by omega
      go_wp2_with fail
      rw [show (X : Int) % 10 = ((X % 10 : Nat) : Int) by omega, dig_byte (X % 10) (Nat.mod_lt _ (by omega)), one_back]
      simp only [Result.andThen]
      rw [Oper.upon_value]
      go_wp2_with fail
      go_roundw
      case rel =>
        have h1 := h11.out
        have hX := HX.out
        obtain ⟨p1, p2, p3⟩ := HP.out
        have hL : t.length + 1 ≤ 30 := by
          rcases Nat.lt_or_ge t.length 30 with h | h
          · omega
          · have h2 : 10 ^ 30 ≤ 10 ^ t.length := Nat.pow_le_pow_right (by omega) h
            have h3 : 1 * 10 ^ t.length ≤ X * 10 ^ t.length := Nat.mul_le_mul_right _ (by omega)
            have h4 : (10 : Nat) ^ 30 = 1000000000000000000000000000000 := by decide
            have := HXx.out
            omega
        refine ⟨X / 10, UInt8.ofNat (48 + X % 10) :: t, ?_, by omega, by simpa using hL, ?_, Lib.hid ⟨?_, by simpa using hL, ?_⟩, hbl.alloc hbl.size _⟩
        · rw [show wrap64 ((X : Int) / 10) = ((X / 10 : Nat) : Int) by unfold wrap64; omega]
        · rw [← cons_text, UInt8.ofNat_add]
          rfl
        · rw [dec_big (by omega)] at p1
          rw [← p1]
          simp
        · rw [List.length_cons, Nat.pow_succ, Nat.mul_comm (10 ^ t.length) 10, ← Nat.mul_assoc]
          exact Nat.le_trans (Nat.mul_le_mul_right _ (by omega)) p3
      case measure =>
        have h1 := h11.out
        have hX := HX.out
        rw [show wrap64 ((X : Int) / 10) = ((X / 10 : Nat) : Int) by unfold wrap64; omega]
        simp [intOf]; omega
    · have hd : decide (10 ≤ (X : Int)) = false := by simp; omega
      have h11 := Lib.hid h10
      clear h10
      have hlen : 1 + t.length ≤ 9223372036854775807 := by omega
      go_wp2_with fail
      rw [show wrap64 (48 + (X : Int)) % 256 = 48 + (X : Int) by unfold wrap64; have := h11.out; omega, dig_byte X (by have := h11.out; omega), one_back]
      simp only [Result.andThen]
      rw [Oper.upon_value]
      go_wp2_with fail
      go_ret
      refine ⟨?_, hbl.alloc hbl.size _⟩
      have p1 := HP.out.1
      rw [Lib.decDigits_one (by have := h11.out; omega)] at p1
      rw [← p1]
      show Ending.returned (.string (⟨#[48 + UInt8.ofNat X]⟩ ++ ⟨t.toArray⟩)) = _
      rw [cons_text, UInt8.ofNat_add]
      rfl

theorem rdigits_any (e : Int) (w : World) (he : e.natAbs ≤ 1000000000000000000) :
    Calls Tryd.prog 23 #[.int .i64 e] w fun e' w' => e' = .returned (.string ⟨(Lib.itoa e).toArray⟩) ∧ Below w.heap.size w w' := by
  by_cases h0 : e < 0
  · obtain ⟨x, rfl⟩ : ∃ x : Nat, e = -(x : Int) := ⟨e.natAbs, by omega⟩
    have hx1 : 1 ≤ x := by omega
    have hx2 : x ≤ 1000000000000000000 := by omega
    rw [show Lib.itoa (-(x : Int)) = 45 :: Lib.decDigits x by unfold Lib.itoa; rw [if_pos (by omega)]; simp]
    obtain ⟨t, ht⟩ : ∃ t, Lib.decDigits x = t := ⟨_, rfl⟩
    have htl : 1 + t.length ≤ 9223372036854775807 := by
      have := nd_le 18 x (by omega)
      rw [← ht, Lib.decDigits_length]; omega
    have HC := Lib.hid (fun W => digits_pos x W hx2)
    rw [ht] at HC ⊢
    have HX2 := Lib.hid hx2
    clear ht he hx2
    have e0 : decide (-(x : Int) < 0) = true := by simp; omega
    go_enter Tryd.func23, Tryd.ntmps23
    go_wp2_with fail
    rw [show wrap64 (x : Int) = (x : Int) by unfold wrap64; have := HX2.out; omega]
    refine (HC.out _).mono ?_
    rintro e1 w1 ⟨rfl, hb⟩
    go_wp2_with fail
    go_ret
    refine ⟨?_, hb⟩
    show Ending.returned (.string (⟨#[45]⟩ ++ ⟨t.toArray⟩)) = _
    rw [cons_text]
  · obtain ⟨x, rfl⟩ : ∃ x : Nat, e = (x : Int) := ⟨e.natAbs, by omega⟩
    rw [show Lib.itoa (x : Int) = Lib.decDigits x by unfold Lib.itoa; rw [if_neg (by omega)]; simp]
    exact digits_pos x w (by omega)
end Go.Proofs.YtajcjpbfmpljkaaDoor
set_option linter.unusedVariables false
set_option linter.unusedSimpArgs false
set_option linter.unnecessarySimpa false
namespace Go.Proofs.YtajcjpbfmpljkaaDoor
open Go.RowKit
attribute [local go_sem ↓] Go.wp_at_zero Go.wp_at_succ

theorem sgd_dy {neg : Bool} {a c : Nat} {e e' : Int} (h : dy (a : Int) e = dy (c : Int) e') : dy (sgd neg a) e = dy (sgd neg c) e' := by
  unfold sgd
  cases neg
  · simpa using h
  · simp only [if_true]
    rw [← dy_neg, ← dy_neg, h]
theorem hexs_one : ∀ n : Fin 16, hexs.extract n.val (n.val + 1) = ⟨#[hexch n.val]⟩ := by decide +kernel
theorem hexs_cut {v : Nat} (h : v < 16) : hexs.extract v (v + 1) = ⟨#[hexch v]⟩ := hexs_one ⟨v, h⟩
theorem own_lit (W : World) (o : Value) : (W.alloc (.cells #[o] 3)).ownsRow W.heap.size 3 1 (.slice (some ⟨W.heap.size, 0, none⟩) 1 1) 1 [o] :=
  ⟨rfl, .inr ⟨W.heap.size, 1, #[o], rfl, Nat.le_refl _, heap_alloc_new W _, Nat.le_refl _, by unfold maxLen; omega, rfl, rfl⟩⟩
theorem nib_facts {d0 d1 d2 d3 : Nat} (h0 : d0 < 2) (h1 : d1 < 2) (h2 : d2 < 2) (h3 : d3 < 2) : ∃ p0 p1 p2 s1 s2 v v1 : Nat, (d0 : Int) * 8 = (p0 : Int) ∧ (d1 : Int) * 4 = (p1 : Int) ∧ (d2 : Int) * 2 = (p2 : Int) ∧ (p0 : Int) + (p1 : Int) = (s1 : Int) ∧ (s1 : Int) + (p2 : Int) = (s2 : Int) ∧ (s2 : Int) + (d3 : Int) = (v : Int) ∧ (v : Int) + 1 = (v1 : Int) ∧
    IntKind.i64.wrap (p0 : Int) = (p0 : Int) ∧ IntKind.i64.wrap (p1 : Int) = (p1 : Int) ∧ IntKind.i64.wrap (p2 : Int) = (p2 : Int) ∧ IntKind.i64.wrap (s1 : Int) = (s1 : Int) ∧ IntKind.i64.wrap (s2 : Int) = (s2 : Int) ∧ IntKind.i64.wrap (v : Int) = (v : Int) ∧ IntKind.i64.wrap (v1 : Int) = (v1 : Int) ∧ wrap64 (v1 : Int) = (v1 : Int) ∧ v < 16 ∧ v1 = v + 1 ∧ v = 8 * d0 + 4 * d1 + 2 * d2 + d3 :=
  ⟨8 * d0, 4 * d1, 2 * d2, 8 * d0 + 4 * d1, 8 * d0 + 4 * d1 + 2 * d2, 8 * d0 + 4 * d1 + 2 * d2 + d3, 8 * d0 + 4 * d1 + 2 * d2 + d3 + 1, by omega, by omega, by omega, by omega, by omega, by omega, by omega,
    (wr50 (by omega)).1, (wr50 (by omega)).1, (wr50 (by omega)).1, (wr50 (by omega)).1, (wr50 (by omega)).1, (wr50 (by omega)).1, (wr50 (by omega)).1, (wr50 (by omega)).2, by omega, rfl, rfl⟩
theorem hexN_next {x N j : Nat} (hN : nibs x = N) (hj : j < N) {v : Nat} (hv : x / 16 ^ (N - 1 - j) % 16 = v) : (hexN x).take j ++ [hexch v] = (hexN x).take (j + 1) := by
  subst hN
  rw [List.take_succ_eq_append_getElem (by rw [hexN_length]; exact hj)]
  congr 2
  simp only [hexN, List.getElem_map, List.getElem_range]
  rw [hv]
theorem add_at (b y j : Nat) : (⟨b, y, none⟩ : Addr).add j = ⟨b, y + j, none⟩ := by
  unfold Addr.add
  split
  · rename_i h; subst h; rfl
  · rfl
theorem str_snoc (l : List UInt8) (c : UInt8) : (⟨l.toArray⟩ ++ ⟨#[c]⟩ : ByteArray) = ⟨(l ++ [c]).toArray⟩ := by
  apply ByteArray.ext
  simp [ByteArray.data_append]
theorem str_app (l m : List UInt8) : (⟨l.toArray⟩ ++ ⟨m.toArray⟩ : ByteArray) = ⟨(l ++ m).toArray⟩ := by
  apply ByteArray.ext
  simp [ByteArray.data_append]
theorem four_idx {j N M i0 : Nat} (hj : j < N) (hN : N ≤ 1000000000) (hM : M = N * 4) (q0 : i0 = 4 * j) : ∃ i1 i2 i3 i4 : Nat, i1 = 4 * j + 1 ∧ i2 = 4 * j + 2 ∧ i3 = 4 * j + 3 ∧ i4 = 4 * (j + 1) ∧ i0 < M ∧ i1 < M ∧ i2 < M ∧ i3 < M ∧ (i0 : Int) + 1 = (i1 : Int) ∧ (i0 : Int) + 2 = (i2 : Int) ∧ (i0 : Int) + 3 = (i3 : Int) ∧ (i0 : Int) + 4 = (i4 : Int) ∧
    wrap64 (i1 : Int) = (i1 : Int) ∧ wrap64 (i2 : Int) = (i2 : Int) ∧ wrap64 (i3 : Int) = (i3 : Int) ∧ wrap64 (i4 : Int) = (i4 : Int) ∧ IntKind.i64.wrap (i1 : Int) = (i1 : Int) ∧ IntKind.i64.wrap (i2 : Int) = (i2 : Int) ∧ IntKind.i64.wrap (i3 : Int) = (i3 : Int) ∧ IntKind.i64.wrap (i4 : Int) = (i4 : Int) :=
  ⟨4 * j + 1, 4 * j + 2, 4 * j + 3, 4 * (j + 1), rfl, rfl, rfl, rfl, by omega, by omega, by omega, by omega, by omega, by omega, by omega, by omega,
    (wr50 (by omega)).2, (wr50 (by omega)).2, (wr50 (by omega)).2, (wr50 (by omega)).2, (wr50 (by omega)).1, (wr50 (by omega)).1, (wr50 (by omega)).1, (wr50 (by omega)).1⟩

set_option maxRecDepth 100000 in
set_option maxHeartbeats 4000000 in
theorem rtext_any (neg : Bool) (A : Option Addr) (n c : Nat) (l : List Nat) (E : Int) (w : World) (h : Rd w A n c l) (hn : n ≤ 16777216) (hE : E.natAbs ≤ 1099511627776) :
    Calls Tryd.prog 8 #[.agg #[.bool neg, .slice A n c, .int .i64 E]] w fun e w' => e = .returned (.string ⟨(txt (rdy neg l E)).toArray⟩) ∧ Below w.heap.size w w' := by
  have HOd := Lib.hid (fun W (hb : Below w.heap.size w W) => rodd_any neg A n c l E W (h.below hb) hn hE)
  have HX0 := Lib.hid (Blk.new w 32 #[.bool neg, .slice A n c, .int .i64 E])
  have HB0 := Lib.hid ((Below.refl w.heap.size w).alloc (Nat.le_refl _) (.cells #[.bool neg, .slice A n c, .int .i64 E] 32))
  clear h hn hE
  go_enter Tryd.func8, Tryd.ntmps8
  obtain ⟨a0, a1, a2⟩ := cells3 HX0.out
  go_wp2_with fail
  refine (HOd.out _ HB0.out).mono ?_
  rintro e w1 ⟨B, m, d9, b, E', rfl, hR, hT, h01, hval, hE', hm, hb⟩
  have HX1 := Lib.hid (HX0.out.next hb)
  have HB1 := Lib.hid (below_nx HB0.out hb)
  have HV := Lib.hid hval
  have HT := Lib.hid hT
  have HR := Lib.hid hR
  have HE := Lib.hid hE'
  have hml := hR.1
  have HM := Lib.hid hm
  clear hR hT hval hE' hb a0 a1 a2 hm
  rcases h01 with rfl | ⟨hh, hla⟩
  · have hm0 : m = 0 := hml
    clear hml
    subst hm0
    go_wp2_with fail
    go_ret
    refine ⟨?_, HB1.out⟩
    have h0 := HV.out
    rw [show ((hv [] : Nat) : Int) = 0 from rfl, dy_zero] at h0
    have h1 := (dy_eq_zero _ _).1 h0.symm
    have h2 : rdy neg l E = 0 := by
      rw [rdy_sgd, dy_eq_zero]
      have : ofd 65536 l = 0 := by omega
      rw [this, sgd_zero]
    rw [h2]
    rfl
  · have hm0 : 0 < m := by
      rw [hml]
      cases b with
      | nil => cases hh
      | cons x t => simp
    have ht : ((m : Int) == 0) = false := by simp; omega
    have HD := Lib.hid (show txt (rdy neg l E) = (if neg = true then [45] else []) ++ hexN (hv b) ++ [112] ++ Lib.itoa E' by rw [rdy_sgd, ← sgd_dy HV.out, txt_odd HT.out hh hla])
    have HNb := Lib.hid (show nibs (hv b) = (m + 3) / 4 by unfold nibs; rw [hv_bl HT.out hh, hml])
    obtain ⟨N, hN⟩ : ∃ N, (m + 3) / 4 = N := ⟨_, rfl⟩
    rw [hN] at HNb
    have HNm := Lib.hid (show N * 4 ≤ m + 3 ∧ m ≤ N * 4 by omega)
    have HXv := Lib.hid (show hv b = hv b from rfl)
    clear hh hla hN hml
    go_wp2_with fail
    go_loopw [3] (fun a wr => ∃ (B' : Option Addr) (m' c' : Nat) (b' : List Nat), a = .slice B' m' c' ∧ 0 < m' ∧ m' ≤ 268435459 ∧ Hid (Rd wr B' m' c' b' ∧ Two b' ∧ hv b' = hv b ∧ m ≤ m' ∧ m' ≤ N * 4) ∧ Below w1.heap.size w1 wr) (fun a _ => match a with | .slice _ n _ => N * 4 - n | _ => 0)
    case atStart => exact ⟨B, m, d9, b, rfl, hm0, by have := HM.out; omega, Lib.hid ⟨HR.out, HT.out, rfl, Nat.le_refl _, HNm.out.2⟩, Below.refl _ _⟩
    case round =>
      obtain ⟨B', m', c', b', rfl, hp, hmb, HS, hbl⟩ := hrel
      obtain ⟨r, hr⟩ : ∃ r, m' % 4 = r := ⟨_, rfl⟩
      have e1 : (m' : Int) % 4 = (r : Int) := by omega
      have e2 : (m' : Int).tmod 4 = (r : Int) := by rw [Int.tmod_eq_emod_of_nonneg (by omega)]; exact e1
      by_cases hr0 : r = 0
      · subst hr0
        have HJ := Lib.hid (show m' = N * 4 by have := HS.out.2.2.2; have := HNm.out; omega)
        have HB2 := Lib.hid (below_nx HB1.out hbl)
        have HX2 := Lib.hid (HX1.out.below hbl HX1.out.lt)
        have hrow := HS.out.1.2.2.1
        have hlen := HS.out.1.1
        obtain ⟨b0, y0, rfl, hcs⟩ : ∃ b0 y0, B' = some ⟨b0, y0, none⟩ ∧ ∀ i v, (ints b')[i]? = some v → wr.cell? ⟨b0, y0 + i, none⟩ = some v := by
          rcases hrow with h | ⟨b0, y0, e, hc⟩
          · have : b' = [] := by simpa [ints] using h
            subst this
            simp at hlen; omega
          · exact ⟨b0, y0, e, hc⟩
        have HCs := Lib.hid hcs
        have HLn := Lib.hid hlen
        clear hr hbl hcs hrow hlen
        clear e1 e2
        have e1 : (m' : Int).tmod 4 = 0 := by rw [Int.tmod_eq_emod_of_nonneg (by omega)]; have := HJ.out; omega
        obtain ⟨wo, rfl⟩ : ∃ wo : World, wo = wr := ⟨_, rfl⟩
        go_wp2_with fail
        clear e1
        go_loopw [5, 6] (fun s i wr => ∃ j i0 : Nat, Hid (j ≤ N ∧ i0 = 4 * j) ∧ s = .string ⟨((hexN (hv b)).take j).toArray⟩ ∧ i = .int .i64 (i0 : Int) ∧ Below wo.heap.size wo wr) (fun _ i _ => m' - (intOf i).toNat)
        case atStart => exact ⟨0, 0, Lib.hid ⟨Nat.zero_le _, rfl⟩, by simp, rfl, Below.refl _ _⟩
        case round =>
          obtain ⟨j, i0, HJ0, rfl, rfl, hbq⟩ := hrel
          have HBq := Lib.hid hbq
          clear hbq
          by_cases hjn : j < N
          · have hu : decide (i0 < m') = true := by have := HJ0.out; have := HJ.out; simp; omega
            have HJn := Lib.hid hjn
            have HNl := Lib.hid (show N ≤ 1000000000 by have := HJ.out; omega)
            clear hjn hmb hp
            go_wp2_with fail
            clear hu
            have q0 := HJ0.out.2
            obtain ⟨i1, i2, i3, i4, q1, q2, q3, q4, l0, l1, l2, l3, a1, a2, a3, a4, c1, c2, c3, c4, r1, r2, r3, r4⟩ := four_idx HJn.out HNl.out HJ.out q0
            have n0 := nib_at HS.out.2.1 (N := N) (j := j) (by rw [← HLn.out, HJ.out, Nat.mul_comm]) HJn.out
            rw [← q3, ← q2, ← q1, ← q0, HS.out.2.2.1] at n0
            have g2 : ∀ i, i < m' → b'.getD i 0 < 2 ∧ wr.cell? ⟨b0, y0 + i, none⟩ = some (.int .i64 ((b'.getD i 0 : Nat) : Int)) := fun i hi => by
              have hi' : i < b'.length := by rw [← HLn.out]; exact hi
              have e : b'.getD i 0 = b'[i] := by simp [List.getD, hi']
              rw [e]
              exact ⟨HS.out.2.1 _ (List.getElem_mem hi'), cell_below (HCs.out i _ (ints_get b' i hi')) HBq.out⟩
            obtain ⟨t0, z0⟩ := g2 i0 l0
            obtain ⟨t1, z1⟩ := g2 i1 l1
            obtain ⟨t2, z2⟩ := g2 i2 l2
            obtain ⟨t3, z3⟩ := g2 i3 l3
            generalize b'.getD i0 0 = d0 at *
            generalize b'.getD i1 0 = d1 at *
            generalize b'.getD i2 0 = d2 at *
            generalize b'.getD i3 0 = d3 at *
            obtain ⟨p0, p1, p2, s1, s2, v, v1, k0, k1, k2, k3, k4, k5, k6, w0, w1', w2, w3, w4, w5, w6, w7, hv16, hv1, hvv⟩ := nib_facts t0 t1 t2 t3
            rw [← hvv] at n0
            have HN0 := Lib.hid n0
            have HV1 := Lib.hid hv1
            have HQ := Lib.hid (And.intro q0 q4)
            have HV6 := Lib.hid hv16
            have HK6 := Lib.hid (And.intro k6 (And.intro w6 w7))
            have HF4 := Lib.hid (And.intro r4 (And.intro a4 c4))
            clear g2 n0 hv1 hvv hv16 q0 q1 q2 q3 q4 t0 t1 t2 t3 k6 w6 w7 r4 a4 c4
            obtain ⟨ws, hws⟩ : ∃ ws : World, ws = wr := ⟨_, rfl⟩
            refine wp_region_inv [29, 30, 31, 32, 33, 34, 35, 36, 37, 38, 39, 40, 41, 42, 43, 44, 45, 46, 47, 48, 49, 50, 51, 52, 53, 7] (fun d s W => (d 0 = true → s 29 = .slice (some ⟨b0, y0, none⟩) m' c') ∧ (d 1 = true → s 30 = .int .i64 (i0 : Int)) ∧ (d 2 = true → s 31 = .pointer (some ⟨b0, y0 + i0, none⟩)) ∧ (d 3 = true → s 32 = .int .i64 (d0 : Int)) ∧ (d 4 = true → s 33 = .int .i64 (p0 : Int)) ∧ (d 5 = true → s 34 = .slice (some ⟨b0, y0, none⟩) m' c') ∧ (d 6 = true → s 35 = .int .i64 (i0 : Int)) ∧ (d 7 = true → s 36 = .int .i64 (i1 : Int)) ∧ (d 8 = true → s 37 = .pointer (some ⟨b0, y0 + i1, none⟩)) ∧ (d 9 = true → s 38 = .int .i64 (d1 : Int)) ∧ (d 10 = true → s 39 = .int .i64 (p1 : Int)) ∧ (d 11 = true → s 40 = .int .i64 (s1 : Int)) ∧ (d 12 = true → s 41 = .slice (some ⟨b0, y0, none⟩) m' c') ∧ (d 13 = true → s 42 = .int .i64 (i0 : Int)) ∧ (d 14 = true → s 43 = .int .i64 (i2 : Int)) ∧ (d 15 = true → s 44 = .pointer (some ⟨b0, y0 + i2, none⟩)) ∧ (d 16 = true → s 45 = .int .i64 (d2 : Int)) ∧ (d 17 = true → s 46 = .int .i64 (p2 : Int)) ∧ (d 18 = true → s 47 = .int .i64 (s2 : Int)) ∧ (d 19 = true → s 48 = .slice (some ⟨b0, y0, none⟩) m' c') ∧ (d 20 = true → s 49 = .int .i64 (i0 : Int)) ∧ (d 21 = true → s 50 = .int .i64 (i3 : Int)) ∧ (d 22 = true → s 51 = .pointer (some ⟨b0, y0 + i3, none⟩)) ∧ (d 23 = true → s 52 = .int .i64 (d3 : Int)) ∧ (d 24 = true → s 53 = .int .i64 (v : Int)) ∧ (d 25 = true → s 7 = .int .i64 (v : Int)) ∧ Below wr.heap.size wr W)
              rfl (by kernel_rfl) ?_ ?_ ?_
            · exact ⟨by simp, by simp, by simp, by simp, by simp, by simp, by simp, by simp, by simp, by simp, by simp, by simp, by simp, by simp, by simp, by simp, by simp, by simp, by simp, by simp, by simp, by simp, by simp, by simp, by simp, by simp, (Below.refl _ _).drew⟩
            · refine ⟨?_, ?_, ?_, ?_, ?_, ?_, ?_, ?_, ?_, ?_, ?_, ?_, ?_, ?_, ?_, ?_, ?_, ?_, ?_, ?_, ?_, ?_, ?_, ?_, ?_, ?_, trivial⟩
              all_goals
                intro d s W hJ hfr hd hdep
                simp only [List.mem_cons, forall_eq_or_imp, List.not_mem_nil, false_implies, implies_true, and_true, Region.binds] at hdep
                have f3 := hfr 3 (by decide)
                have f6 := hfr 6 (by decide)
                simp at f3 f6 hdep
                obtain ⟨h0, h1, h2, h3, h4, h5, h6, h7, h8, h9, h10, h11, h12, h13, h14, h15, h16, h17, h18, h19, h20, h21, h22, h23, h24, h25, hT⟩ := hJ
              · unfold OpSteps
                simp [go_sem, evS, f3]
                exact ⟨fun _ => by simp [sput], fun h => by simpa [sput] using h1 (by simpa [did] using h), fun h => by simpa [sput] using h2 (by simpa [did] using h), fun h => by simpa [sput] using h3 (by simpa [did] using h), fun h => by simpa [sput] using h4 (by simpa [did] using h), fun h => by simpa [sput] using h5 (by simpa [did] using h), fun h => by simpa [sput] using h6 (by simpa [did] using h), fun h => by simpa [sput] using h7 (by simpa [did] using h), fun h => by simpa [sput] using h8 (by simpa [did] using h), fun h => by simpa [sput] using h9 (by simpa [did] using h), fun h => by simpa [sput] using h10 (by simpa [did] using h), fun h => by simpa [sput] using h11 (by simpa [did] using h), fun h => by simpa [sput] using h12 (by simpa [did] using h), fun h => by simpa [sput] using h13 (by simpa [did] using h), fun h => by simpa [sput] using h14 (by simpa [did] using h), fun h => by simpa [sput] using h15 (by simpa [did] using h), fun h => by simpa [sput] using h16 (by simpa [did] using h), fun h => by simpa [sput] using h17 (by simpa [did] using h), fun h => by simpa [sput] using h18 (by simpa [did] using h), fun h => by simpa [sput] using h19 (by simpa [did] using h), fun h => by simpa [sput] using h20 (by simpa [did] using h), fun h => by simpa [sput] using h21 (by simpa [did] using h), fun h => by simpa [sput] using h22 (by simpa [did] using h), fun h => by simpa [sput] using h23 (by simpa [did] using h), fun h => by simpa [sput] using h24 (by simpa [did] using h), fun h => by simpa [sput] using h25 (by simpa [did] using h), hT⟩
              · unfold OpSteps
                simp [go_sem, evS, f6]
                exact ⟨fun h => by simpa [sput] using h0 (by simpa [did] using h), fun _ => by simp [sput], fun h => by simpa [sput] using h2 (by simpa [did] using h), fun h => by simpa [sput] using h3 (by simpa [did] using h), fun h => by simpa [sput] using h4 (by simpa [did] using h), fun h => by simpa [sput] using h5 (by simpa [did] using h), fun h => by simpa [sput] using h6 (by simpa [did] using h), fun h => by simpa [sput] using h7 (by simpa [did] using h), fun h => by simpa [sput] using h8 (by simpa [did] using h), fun h => by simpa [sput] using h9 (by simpa [did] using h), fun h => by simpa [sput] using h10 (by simpa [did] using h), fun h => by simpa [sput] using h11 (by simpa [did] using h), fun h => by simpa [sput] using h12 (by simpa [did] using h), fun h => by simpa [sput] using h13 (by simpa [did] using h), fun h => by simpa [sput] using h14 (by simpa [did] using h), fun h => by simpa [sput] using h15 (by simpa [did] using h), fun h => by simpa [sput] using h16 (by simpa [did] using h), fun h => by simpa [sput] using h17 (by simpa [did] using h), fun h => by simpa [sput] using h18 (by simpa [did] using h), fun h => by simpa [sput] using h19 (by simpa [did] using h), fun h => by simpa [sput] using h20 (by simpa [did] using h), fun h => by simpa [sput] using h21 (by simpa [did] using h), fun h => by simpa [sput] using h22 (by simpa [did] using h), fun h => by simpa [sput] using h23 (by simpa [did] using h), fun h => by simpa [sput] using h24 (by simpa [did] using h), fun h => by simpa [sput] using h25 (by simpa [did] using h), hT⟩
              · have fz0 := h0 (by simp [hdep])
                have fz1 := h1 (by simp [hdep])
                unfold OpSteps
                simp [go_sem, evS, fz0, fz1, l0, l1, l2, l3]
                exact ⟨fun h => by simpa [sput] using h0 (by simpa [did] using h), fun h => by simpa [sput] using h1 (by simpa [did] using h), fun _ => by simp [sput], fun h => by simpa [sput] using h3 (by simpa [did] using h), fun h => by simpa [sput] using h4 (by simpa [did] using h), fun h => by simpa [sput] using h5 (by simpa [did] using h), fun h => by simpa [sput] using h6 (by simpa [did] using h), fun h => by simpa [sput] using h7 (by simpa [did] using h), fun h => by simpa [sput] using h8 (by simpa [did] using h), fun h => by simpa [sput] using h9 (by simpa [did] using h), fun h => by simpa [sput] using h10 (by simpa [did] using h), fun h => by simpa [sput] using h11 (by simpa [did] using h), fun h => by simpa [sput] using h12 (by simpa [did] using h), fun h => by simpa [sput] using h13 (by simpa [did] using h), fun h => by simpa [sput] using h14 (by simpa [did] using h), fun h => by simpa [sput] using h15 (by simpa [did] using h), fun h => by simpa [sput] using h16 (by simpa [did] using h), fun h => by simpa [sput] using h17 (by simpa [did] using h), fun h => by simpa [sput] using h18 (by simpa [did] using h), fun h => by simpa [sput] using h19 (by simpa [did] using h), fun h => by simpa [sput] using h20 (by simpa [did] using h), fun h => by simpa [sput] using h21 (by simpa [did] using h), fun h => by simpa [sput] using h22 (by simpa [did] using h), fun h => by simpa [sput] using h23 (by simpa [did] using h), fun h => by simpa [sput] using h24 (by simpa [did] using h), fun h => by simpa [sput] using h25 (by simpa [did] using h), hT⟩
              · have fz2 := h2 (by simp [hdep])
                unfold OpSteps
                have pc := cell_below z0 hT
                simp [go_sem, evS, fz2, pc]
                exact ⟨fun h => by simpa [sput] using h0 (by simpa [did] using h), fun h => by simpa [sput] using h1 (by simpa [did] using h), fun h => by simpa [sput] using h2 (by simpa [did] using h), fun _ => by simp [sput], fun h => by simpa [sput] using h4 (by simpa [did] using h), fun h => by simpa [sput] using h5 (by simpa [did] using h), fun h => by simpa [sput] using h6 (by simpa [did] using h), fun h => by simpa [sput] using h7 (by simpa [did] using h), fun h => by simpa [sput] using h8 (by simpa [did] using h), fun h => by simpa [sput] using h9 (by simpa [did] using h), fun h => by simpa [sput] using h10 (by simpa [did] using h), fun h => by simpa [sput] using h11 (by simpa [did] using h), fun h => by simpa [sput] using h12 (by simpa [did] using h), fun h => by simpa [sput] using h13 (by simpa [did] using h), fun h => by simpa [sput] using h14 (by simpa [did] using h), fun h => by simpa [sput] using h15 (by simpa [did] using h), fun h => by simpa [sput] using h16 (by simpa [did] using h), fun h => by simpa [sput] using h17 (by simpa [did] using h), fun h => by simpa [sput] using h18 (by simpa [did] using h), fun h => by simpa [sput] using h19 (by simpa [did] using h), fun h => by simpa [sput] using h20 (by simpa [did] using h), fun h => by simpa [sput] using h21 (by simpa [did] using h), fun h => by simpa [sput] using h22 (by simpa [did] using h), fun h => by simpa [sput] using h23 (by simpa [did] using h), fun h => by simpa [sput] using h24 (by simpa [did] using h), fun h => by simpa [sput] using h25 (by simpa [did] using h), hT⟩
              · have fz3 := h3 (by simp [hdep])
                unfold OpSteps
                simp [go_sem, evS, fz3, k0, w0]
                exact ⟨fun h => by simpa [sput] using h0 (by simpa [did] using h), fun h => by simpa [sput] using h1 (by simpa [did] using h), fun h => by simpa [sput] using h2 (by simpa [did] using h), fun h => by simpa [sput] using h3 (by simpa [did] using h), fun _ => by simp [sput], fun h => by simpa [sput] using h5 (by simpa [did] using h), fun h => by simpa [sput] using h6 (by simpa [did] using h), fun h => by simpa [sput] using h7 (by simpa [did] using h), fun h => by simpa [sput] using h8 (by simpa [did] using h), fun h => by simpa [sput] using h9 (by simpa [did] using h), fun h => by simpa [sput] using h10 (by simpa [did] using h), fun h => by simpa [sput] using h11 (by simpa [did] using h), fun h => by simpa [sput] using h12 (by simpa [did] using h), fun h => by simpa [sput] using h13 (by simpa [did] using h), fun h => by simpa [sput] using h14 (by simpa [did] using h), fun h => by simpa [sput] using h15 (by simpa [did] using h), fun h => by simpa [sput] using h16 (by simpa [did] using h), fun h => by simpa [sput] using h17 (by simpa [did] using h), fun h => by simpa [sput] using h18 (by simpa [did] using h), fun h => by simpa [sput] using h19 (by simpa [did] using h), fun h => by simpa [sput] using h20 (by simpa [did] using h), fun h => by simpa [sput] using h21 (by simpa [did] using h), fun h => by simpa [sput] using h22 (by simpa [did] using h), fun h => by simpa [sput] using h23 (by simpa [did] using h), fun h => by simpa [sput] using h24 (by simpa [did] using h), fun h => by simpa [sput] using h25 (by simpa [did] using h), hT⟩
              · unfold OpSteps
                simp [go_sem, evS, f3]
                exact ⟨fun h => by simpa [sput] using h0 (by simpa [did] using h), fun h => by simpa [sput] using h1 (by simpa [did] using h), fun h => by simpa [sput] using h2 (by simpa [did] using h), fun h => by simpa [sput] using h3 (by simpa [did] using h), fun h => by simpa [sput] using h4 (by simpa [did] using h), fun _ => by simp [sput], fun h => by simpa [sput] using h6 (by simpa [did] using h), fun h => by simpa [sput] using h7 (by simpa [did] using h), fun h => by simpa [sput] using h8 (by simpa [did] using h), fun h => by simpa [sput] using h9 (by simpa [did] using h), fun h => by simpa [sput] using h10 (by simpa [did] using h), fun h => by simpa [sput] using h11 (by simpa [did] using h), fun h => by simpa [sput] using h12 (by simpa [did] using h), fun h => by simpa [sput] using h13 (by simpa [did] using h), fun h => by simpa [sput] using h14 (by simpa [did] using h), fun h => by simpa [sput] using h15 (by simpa [did] using h), fun h => by simpa [sput] using h16 (by simpa [did] using h), fun h => by simpa [sput] using h17 (by simpa [did] using h), fun h => by simpa [sput] using h18 (by simpa [did] using h), fun h => by simpa [sput] using h19 (by simpa [did] using h), fun h => by simpa [sput] using h20 (by simpa [did] using h), fun h => by simpa [sput] using h21 (by simpa [did] using h), fun h => by simpa [sput] using h22 (by simpa [did] using h), fun h => by simpa [sput] using h23 (by simpa [did] using h), fun h => by simpa [sput] using h24 (by simpa [did] using h), fun h => by simpa [sput] using h25 (by simpa [did] using h), hT⟩
              · unfold OpSteps
                simp [go_sem, evS, f6]
                exact ⟨fun h => by simpa [sput] using h0 (by simpa [did] using h), fun h => by simpa [sput] using h1 (by simpa [did] using h), fun h => by simpa [sput] using h2 (by simpa [did] using h), fun h => by simpa [sput] using h3 (by simpa [did] using h), fun h => by simpa [sput] using h4 (by simpa [did] using h), fun h => by simpa [sput] using h5 (by simpa [did] using h), fun _ => by simp [sput], fun h => by simpa [sput] using h7 (by simpa [did] using h), fun h => by simpa [sput] using h8 (by simpa [did] using h), fun h => by simpa [sput] using h9 (by simpa [did] using h), fun h => by simpa [sput] using h10 (by simpa [did] using h), fun h => by simpa [sput] using h11 (by simpa [did] using h), fun h => by simpa [sput] using h12 (by simpa [did] using h), fun h => by simpa [sput] using h13 (by simpa [did] using h), fun h => by simpa [sput] using h14 (by simpa [did] using h), fun h => by simpa [sput] using h15 (by simpa [did] using h), fun h => by simpa [sput] using h16 (by simpa [did] using h), fun h => by simpa [sput] using h17 (by simpa [did] using h), fun h => by simpa [sput] using h18 (by simpa [did] using h), fun h => by simpa [sput] using h19 (by simpa [did] using h), fun h => by simpa [sput] using h20 (by simpa [did] using h), fun h => by simpa [sput] using h21 (by simpa [did] using h), fun h => by simpa [sput] using h22 (by simpa [did] using h), fun h => by simpa [sput] using h23 (by simpa [did] using h), fun h => by simpa [sput] using h24 (by simpa [did] using h), fun h => by simpa [sput] using h25 (by simpa [did] using h), hT⟩
              · have fz6 := h6 (by simp [hdep])
                unfold OpSteps
                simp [go_sem, evS, fz6, r1, c1, a1]
                exact ⟨fun h => by simpa [sput] using h0 (by simpa [did] using h), fun h => by simpa [sput] using h1 (by simpa [did] using h), fun h => by simpa [sput] using h2 (by simpa [did] using h), fun h => by simpa [sput] using h3 (by simpa [did] using h), fun h => by simpa [sput] using h4 (by simpa [did] using h), fun h => by simpa [sput] using h5 (by simpa [did] using h), fun h => by simpa [sput] using h6 (by simpa [did] using h), fun _ => by simp [sput], fun h => by simpa [sput] using h8 (by simpa [did] using h), fun h => by simpa [sput] using h9 (by simpa [did] using h), fun h => by simpa [sput] using h10 (by simpa [did] using h), fun h => by simpa [sput] using h11 (by simpa [did] using h), fun h => by simpa [sput] using h12 (by simpa [did] using h), fun h => by simpa [sput] using h13 (by simpa [did] using h), fun h => by simpa [sput] using h14 (by simpa [did] using h), fun h => by simpa [sput] using h15 (by simpa [did] using h), fun h => by simpa [sput] using h16 (by simpa [did] using h), fun h => by simpa [sput] using h17 (by simpa [did] using h), fun h => by simpa [sput] using h18 (by simpa [did] using h), fun h => by simpa [sput] using h19 (by simpa [did] using h), fun h => by simpa [sput] using h20 (by simpa [did] using h), fun h => by simpa [sput] using h21 (by simpa [did] using h), fun h => by simpa [sput] using h22 (by simpa [did] using h), fun h => by simpa [sput] using h23 (by simpa [did] using h), fun h => by simpa [sput] using h24 (by simpa [did] using h), fun h => by simpa [sput] using h25 (by simpa [did] using h), hT⟩
              · have fz5 := h5 (by simp [hdep])
                have fz7 := h7 (by simp [hdep])
                unfold OpSteps
                simp [go_sem, evS, fz5, fz7, l0, l1, l2, l3]
                exact ⟨fun h => by simpa [sput] using h0 (by simpa [did] using h), fun h => by simpa [sput] using h1 (by simpa [did] using h), fun h => by simpa [sput] using h2 (by simpa [did] using h), fun h => by simpa [sput] using h3 (by simpa [did] using h), fun h => by simpa [sput] using h4 (by simpa [did] using h), fun h => by simpa [sput] using h5 (by simpa [did] using h), fun h => by simpa [sput] using h6 (by simpa [did] using h), fun h => by simpa [sput] using h7 (by simpa [did] using h), fun _ => by simp [sput], fun h => by simpa [sput] using h9 (by simpa [did] using h), fun h => by simpa [sput] using h10 (by simpa [did] using h), fun h => by simpa [sput] using h11 (by simpa [did] using h), fun h => by simpa [sput] using h12 (by simpa [did] using h), fun h => by simpa [sput] using h13 (by simpa [did] using h), fun h => by simpa [sput] using h14 (by simpa [did] using h), fun h => by simpa [sput] using h15 (by simpa [did] using h), fun h => by simpa [sput] using h16 (by simpa [did] using h), fun h => by simpa [sput] using h17 (by simpa [did] using h), fun h => by simpa [sput] using h18 (by simpa [did] using h), fun h => by simpa [sput] using h19 (by simpa [did] using h), fun h => by simpa [sput] using h20 (by simpa [did] using h), fun h => by simpa [sput] using h21 (by simpa [did] using h), fun h => by simpa [sput] using h22 (by simpa [did] using h), fun h => by simpa [sput] using h23 (by simpa [did] using h), fun h => by simpa [sput] using h24 (by simpa [did] using h), fun h => by simpa [sput] using h25 (by simpa [did] using h), hT⟩
              · have fz8 := h8 (by simp [hdep])
                unfold OpSteps
                have pc := cell_below z1 hT
                simp [go_sem, evS, fz8, pc]
                exact ⟨fun h => by simpa [sput] using h0 (by simpa [did] using h), fun h => by simpa [sput] using h1 (by simpa [did] using h), fun h => by simpa [sput] using h2 (by simpa [did] using h), fun h => by simpa [sput] using h3 (by simpa [did] using h), fun h => by simpa [sput] using h4 (by simpa [did] using h), fun h => by simpa [sput] using h5 (by simpa [did] using h), fun h => by simpa [sput] using h6 (by simpa [did] using h), fun h => by simpa [sput] using h7 (by simpa [did] using h), fun h => by simpa [sput] using h8 (by simpa [did] using h), fun _ => by simp [sput], fun h => by simpa [sput] using h10 (by simpa [did] using h), fun h => by simpa [sput] using h11 (by simpa [did] using h), fun h => by simpa [sput] using h12 (by simpa [did] using h), fun h => by simpa [sput] using h13 (by simpa [did] using h), fun h => by simpa [sput] using h14 (by simpa [did] using h), fun h => by simpa [sput] using h15 (by simpa [did] using h), fun h => by simpa [sput] using h16 (by simpa [did] using h), fun h => by simpa [sput] using h17 (by simpa [did] using h), fun h => by simpa [sput] using h18 (by simpa [did] using h), fun h => by simpa [sput] using h19 (by simpa [did] using h), fun h => by simpa [sput] using h20 (by simpa [did] using h), fun h => by simpa [sput] using h21 (by simpa [did] using h), fun h => by simpa [sput] using h22 (by simpa [did] using h), fun h => by simpa [sput] using h23 (by simpa [did] using h), fun h => by simpa [sput] using h24 (by simpa [did] using h), fun h => by simpa [sput] using h25 (by simpa [did] using h), hT⟩
              · have fz9 := h9 (by simp [hdep])
                unfold OpSteps
                simp [go_sem, evS, fz9, k1, w1']
                exact ⟨fun h => by simpa [sput] using h0 (by simpa [did] using h), fun h => by simpa [sput] using h1 (by simpa [did] using h), fun h => by simpa [sput] using h2 (by simpa [did] using h), fun h => by simpa [sput] using h3 (by simpa [did] using h), fun h => by simpa [sput] using h4 (by simpa [did] using h), fun h => by simpa [sput] using h5 (by simpa [did] using h), fun h => by simpa [sput] using h6 (by simpa [did] using h), fun h => by simpa [sput] using h7 (by simpa [did] using h), fun h => by simpa [sput] using h8 (by simpa [did] using h), fun h => by simpa [sput] using h9 (by simpa [did] using h), fun _ => by simp [sput], fun h => by simpa [sput] using h11 (by simpa [did] using h), fun h => by simpa [sput] using h12 (by simpa [did] using h), fun h => by simpa [sput] using h13 (by simpa [did] using h), fun h => by simpa [sput] using h14 (by simpa [did] using h), fun h => by simpa [sput] using h15 (by simpa [did] using h), fun h => by simpa [sput] using h16 (by simpa [did] using h), fun h => by simpa [sput] using h17 (by simpa [did] using h), fun h => by simpa [sput] using h18 (by simpa [did] using h), fun h => by simpa [sput] using h19 (by simpa [did] using h), fun h => by simpa [sput] using h20 (by simpa [did] using h), fun h => by simpa [sput] using h21 (by simpa [did] using h), fun h => by simpa [sput] using h22 (by simpa [did] using h), fun h => by simpa [sput] using h23 (by simpa [did] using h), fun h => by simpa [sput] using h24 (by simpa [did] using h), fun h => by simpa [sput] using h25 (by simpa [did] using h), hT⟩
              · have fz4 := h4 (by simp [hdep])
                have fz10 := h10 (by simp [hdep])
                unfold OpSteps
                simp [go_sem, evS, fz4, fz10, k3, w3]
                exact ⟨fun h => by simpa [sput] using h0 (by simpa [did] using h), fun h => by simpa [sput] using h1 (by simpa [did] using h), fun h => by simpa [sput] using h2 (by simpa [did] using h), fun h => by simpa [sput] using h3 (by simpa [did] using h), fun h => by simpa [sput] using h4 (by simpa [did] using h), fun h => by simpa [sput] using h5 (by simpa [did] using h), fun h => by simpa [sput] using h6 (by simpa [did] using h), fun h => by simpa [sput] using h7 (by simpa [did] using h), fun h => by simpa [sput] using h8 (by simpa [did] using h), fun h => by simpa [sput] using h9 (by simpa [did] using h), fun h => by simpa [sput] using h10 (by simpa [did] using h), fun _ => by simp [sput], fun h => by simpa [sput] using h12 (by simpa [did] using h), fun h => by simpa [sput] using h13 (by simpa [did] using h), fun h => by simpa [sput] using h14 (by simpa [did] using h), fun h => by simpa [sput] using h15 (by simpa [did] using h), fun h => by simpa [sput] using h16 (by simpa [did] using h), fun h => by simpa [sput] using h17 (by simpa [did] using h), fun h => by simpa [sput] using h18 (by simpa [did] using h), fun h => by simpa [sput] using h19 (by simpa [did] using h), fun h => by simpa [sput] using h20 (by simpa [did] using h), fun h => by simpa [sput] using h21 (by simpa [did] using h), fun h => by simpa [sput] using h22 (by simpa [did] using h), fun h => by simpa [sput] using h23 (by simpa [did] using h), fun h => by simpa [sput] using h24 (by simpa [did] using h), fun h => by simpa [sput] using h25 (by simpa [did] using h), hT⟩
              · unfold OpSteps
                simp [go_sem, evS, f3]
                exact ⟨fun h => by simpa [sput] using h0 (by simpa [did] using h), fun h => by simpa [sput] using h1 (by simpa [did] using h), fun h => by simpa [sput] using h2 (by simpa [did] using h), fun h => by simpa [sput] using h3 (by simpa [did] using h), fun h => by simpa [sput] using h4 (by simpa [did] using h), fun h => by simpa [sput] using h5 (by simpa [did] using h), fun h => by simpa [sput] using h6 (by simpa [did] using h), fun h => by simpa [sput] using h7 (by simpa [did] using h), fun h => by simpa [sput] using h8 (by simpa [did] using h), fun h => by simpa [sput] using h9 (by simpa [did] using h), fun h => by simpa [sput] using h10 (by simpa [did] using h), fun h => by simpa [sput] using h11 (by simpa [did] using h), fun _ => by simp [sput], fun h => by simpa [sput] using h13 (by simpa [did] using h), fun h => by simpa [sput] using h14 (by simpa [did] using h), fun h => by simpa [sput] using h15 (by simpa [did] using h), fun h => by simpa [sput] using h16 (by simpa [did] using h), fun h => by simpa [sput] using h17 (by simpa [did] using h), fun h => by simpa [sput] using h18 (by simpa [did] using h), fun h => by simpa [sput] using h19 (by simpa [did] using h), fun h => by simpa [sput] using h20 (by simpa [did] using h), fun h => by simpa [sput] using h21 (by simpa [did] using h), fun h => by simpa [sput] using h22 (by simpa [did] using h), fun h => by simpa [sput] using h23 (by simpa [did] using h), fun h => by simpa [sput] using h24 (by simpa [did] using h), fun h => by simpa [sput] using h25 (by simpa [did] using h), hT⟩
              · unfold OpSteps
                simp [go_sem, evS, f6]
                exact ⟨fun h => by simpa [sput] using h0 (by simpa [did] using h), fun h => by simpa [sput] using h1 (by simpa [did] using h), fun h => by simpa [sput] using h2 (by simpa [did] using h), fun h => by simpa [sput] using h3 (by simpa [did] using h), fun h => by simpa [sput] using h4 (by simpa [did] using h), fun h => by simpa [sput] using h5 (by simpa [did] using h), fun h => by simpa [sput] using h6 (by simpa [did] using h), fun h => by simpa [sput] using h7 (by simpa [did] using h), fun h => by simpa [sput] using h8 (by simpa [did] using h), fun h => by simpa [sput] using h9 (by simpa [did] using h), fun h => by simpa [sput] using h10 (by simpa [did] using h), fun h => by simpa [sput] using h11 (by simpa [did] using h), fun h => by simpa [sput] using h12 (by simpa [did] using h), fun _ => by simp [sput], fun h => by simpa [sput] using h14 (by simpa [did] using h), fun h => by simpa [sput] using h15 (by simpa [did] using h), fun h => by simpa [sput] using h16 (by simpa [did] using h), fun h => by simpa [sput] using h17 (by simpa [did] using h), fun h => by simpa [sput] using h18 (by simpa [did] using h), fun h => by simpa [sput] using h19 (by simpa [did] using h), fun h => by simpa [sput] using h20 (by simpa [did] using h), fun h => by simpa [sput] using h21 (by simpa [did] using h), fun h => by simpa [sput] using h22 (by simpa [did] using h), fun h => by simpa [sput] using h23 (by simpa [did] using h), fun h => by simpa [sput] using h24 (by simpa [did] using h), fun h => by simpa [sput] using h25 (by simpa [did] using h), hT⟩
              · have fz13 := h13 (by simp [hdep])
                unfold OpSteps
                simp [go_sem, evS, fz13, r2, c2, a2]
                exact ⟨fun h => by simpa [sput] using h0 (by simpa [did] using h), fun h => by simpa [sput] using h1 (by simpa [did] using h), fun h => by simpa [sput] using h2 (by simpa [did] using h), fun h => by simpa [sput] using h3 (by simpa [did] using h), fun h => by simpa [sput] using h4 (by simpa [did] using h), fun h => by simpa [sput] using h5 (by simpa [did] using h), fun h => by simpa [sput] using h6 (by simpa [did] using h), fun h => by simpa [sput] using h7 (by simpa [did] using h), fun h => by simpa [sput] using h8 (by simpa [did] using h), fun h => by simpa [sput] using h9 (by simpa [did] using h), fun h => by simpa [sput] using h10 (by simpa [did] using h), fun h => by simpa [sput] using h11 (by simpa [did] using h), fun h => by simpa [sput] using h12 (by simpa [did] using h), fun h => by simpa [sput] using h13 (by simpa [did] using h), fun _ => by simp [sput], fun h => by simpa [sput] using h15 (by simpa [did] using h), fun h => by simpa [sput] using h16 (by simpa [did] using h), fun h => by simpa [sput] using h17 (by simpa [did] using h), fun h => by simpa [sput] using h18 (by simpa [did] using h), fun h => by simpa [sput] using h19 (by simpa [did] using h), fun h => by simpa [sput] using h20 (by simpa [did] using h), fun h => by simpa [sput] using h21 (by simpa [did] using h), fun h => by simpa [sput] using h22 (by simpa [did] using h), fun h => by simpa [sput] using h23 (by simpa [did] using h), fun h => by simpa [sput] using h24 (by simpa [did] using h), fun h => by simpa [sput] using h25 (by simpa [did] using h), hT⟩
              · have fz12 := h12 (by simp [hdep])
                have fz14 := h14 (by simp [hdep])
                unfold OpSteps
                simp [go_sem, evS, fz12, fz14, l0, l1, l2, l3]
                exact ⟨fun h => by simpa [sput] using h0 (by simpa [did] using h), fun h => by simpa [sput] using h1 (by simpa [did] using h), fun h => by simpa [sput] using h2 (by simpa [did] using h), fun h => by simpa [sput] using h3 (by simpa [did] using h), fun h => by simpa [sput] using h4 (by simpa [did] using h), fun h => by simpa [sput] using h5 (by simpa [did] using h), fun h => by simpa [sput] using h6 (by simpa [did] using h), fun h => by simpa [sput] using h7 (by simpa [did] using h), fun h => by simpa [sput] using h8 (by simpa [did] using h), fun h => by simpa [sput] using h9 (by simpa [did] using h), fun h => by simpa [sput] using h10 (by simpa [did] using h), fun h => by simpa [sput] using h11 (by simpa [did] using h), fun h => by simpa [sput] using h12 (by simpa [did] using h), fun h => by simpa [sput] using h13 (by simpa [did] using h), fun h => by simpa [sput] using h14 (by simpa [did] using h), fun _ => by simp [sput], fun h => by simpa [sput] using h16 (by simpa [did] using h), fun h => by simpa [sput] using h17 (by simpa [did] using h), fun h => by simpa [sput] using h18 (by simpa [did] using h), fun h => by simpa [sput] using h19 (by simpa [did] using h), fun h => by simpa [sput] using h20 (by simpa [did] using h), fun h => by simpa [sput] using h21 (by simpa [did] using h), fun h => by simpa [sput] using h22 (by simpa [did] using h), fun h => by simpa [sput] using h23 (by simpa [did] using h), fun h => by simpa [sput] using h24 (by simpa [did] using h), fun h => by simpa [sput] using h25 (by simpa [did] using h), hT⟩
              · have fz15 := h15 (by simp [hdep])
                unfold OpSteps
                have pc := cell_below z2 hT
                simp [go_sem, evS, fz15, pc]
                exact ⟨fun h => by simpa [sput] using h0 (by simpa [did] using h), fun h => by simpa [sput] using h1 (by simpa [did] using h), fun h => by simpa [sput] using h2 (by simpa [did] using h), fun h => by simpa [sput] using h3 (by simpa [did] using h), fun h => by simpa [sput] using h4 (by simpa [did] using h), fun h => by simpa [sput] using h5 (by simpa [did] using h), fun h => by simpa [sput] using h6 (by simpa [did] using h), fun h => by simpa [sput] using h7 (by simpa [did] using h), fun h => by simpa [sput] using h8 (by simpa [did] using h), fun h => by simpa [sput] using h9 (by simpa [did] using h), fun h => by simpa [sput] using h10 (by simpa [did] using h), fun h => by simpa [sput] using h11 (by simpa [did] using h), fun h => by simpa [sput] using h12 (by simpa [did] using h), fun h => by simpa [sput] using h13 (by simpa [did] using h), fun h => by simpa [sput] using h14 (by simpa [did] using h), fun h => by simpa [sput] using h15 (by simpa [did] using h), fun _ => by simp [sput], fun h => by simpa [sput] using h17 (by simpa [did] using h), fun h => by simpa [sput] using h18 (by simpa [did] using h), fun h => by simpa [sput] using h19 (by simpa [did] using h), fun h => by simpa [sput] using h20 (by simpa [did] using h), fun h => by simpa [sput] using h21 (by simpa [did] using h), fun h => by simpa [sput] using h22 (by simpa [did] using h), fun h => by simpa [sput] using h23 (by simpa [did] using h), fun h => by simpa [sput] using h24 (by simpa [did] using h), fun h => by simpa [sput] using h25 (by simpa [did] using h), hT⟩
              · have fz16 := h16 (by simp [hdep])
                unfold OpSteps
                simp [go_sem, evS, fz16, k2, w2]
                exact ⟨fun h => by simpa [sput] using h0 (by simpa [did] using h), fun h => by simpa [sput] using h1 (by simpa [did] using h), fun h => by simpa [sput] using h2 (by simpa [did] using h), fun h => by simpa [sput] using h3 (by simpa [did] using h), fun h => by simpa [sput] using h4 (by simpa [did] using h), fun h => by simpa [sput] using h5 (by simpa [did] using h), fun h => by simpa [sput] using h6 (by simpa [did] using h), fun h => by simpa [sput] using h7 (by simpa [did] using h), fun h => by simpa [sput] using h8 (by simpa [did] using h), fun h => by simpa [sput] using h9 (by simpa [did] using h), fun h => by simpa [sput] using h10 (by simpa [did] using h), fun h => by simpa [sput] using h11 (by simpa [did] using h), fun h => by simpa [sput] using h12 (by simpa [did] using h), fun h => by simpa [sput] using h13 (by simpa [did] using h), fun h => by simpa [sput] using h14 (by simpa [did] using h), fun h => by simpa [sput] using h15 (by simpa [did] using h), fun h => by simpa [sput] using h16 (by simpa [did] using h), fun _ => by simp [sput], fun h => by simpa [sput] using h18 (by simpa [did] using h), fun h => by simpa [sput] using h19 (by simpa [did] using h), fun h => by simpa [sput] using h20 (by simpa [did] using h), fun h => by simpa [sput] using h21 (by simpa [did] using h), fun h => by simpa [sput] using h22 (by simpa [did] using h), fun h => by simpa [sput] using h23 (by simpa [did] using h), fun h => by simpa [sput] using h24 (by simpa [did] using h), fun h => by simpa [sput] using h25 (by simpa [did] using h), hT⟩
              · have fz11 := h11 (by simp [hdep])
                have fz17 := h17 (by simp [hdep])
                unfold OpSteps
                simp [go_sem, evS, fz11, fz17, k4, w4]
                exact ⟨fun h => by simpa [sput] using h0 (by simpa [did] using h), fun h => by simpa [sput] using h1 (by simpa [did] using h), fun h => by simpa [sput] using h2 (by simpa [did] using h), fun h => by simpa [sput] using h3 (by simpa [did] using h), fun h => by simpa [sput] using h4 (by simpa [did] using h), fun h => by simpa [sput] using h5 (by simpa [did] using h), fun h => by simpa [sput] using h6 (by simpa [did] using h), fun h => by simpa [sput] using h7 (by simpa [did] using h), fun h => by simpa [sput] using h8 (by simpa [did] using h), fun h => by simpa [sput] using h9 (by simpa [did] using h), fun h => by simpa [sput] using h10 (by simpa [did] using h), fun h => by simpa [sput] using h11 (by simpa [did] using h), fun h => by simpa [sput] using h12 (by simpa [did] using h), fun h => by simpa [sput] using h13 (by simpa [did] using h), fun h => by simpa [sput] using h14 (by simpa [did] using h), fun h => by simpa [sput] using h15 (by simpa [did] using h), fun h => by simpa [sput] using h16 (by simpa [did] using h), fun h => by simpa [sput] using h17 (by simpa [did] using h), fun _ => by simp [sput], fun h => by simpa [sput] using h19 (by simpa [did] using h), fun h => by simpa [sput] using h20 (by simpa [did] using h), fun h => by simpa [sput] using h21 (by simpa [did] using h), fun h => by simpa [sput] using h22 (by simpa [did] using h), fun h => by simpa [sput] using h23 (by simpa [did] using h), fun h => by simpa [sput] using h24 (by simpa [did] using h), fun h => by simpa [sput] using h25 (by simpa [did] using h), hT⟩
              · unfold OpSteps
                simp [go_sem, evS, f3]
                exact ⟨fun h => by simpa [sput] using h0 (by simpa [did] using h), fun h => by simpa [sput] using h1 (by simpa [did] using h), fun h => by simpa [sput] using h2 (by simpa [did] using h), fun h => by simpa [sput] using h3 (by simpa [did] using h), fun h => by simpa [sput] using h4 (by simpa [did] using h), fun h => by simpa [sput] using h5 (by simpa [did] using h), fun h => by simpa [sput] using h6 (by simpa [did] using h), fun h => by simpa [sput] using h7 (by simpa [did] using h), fun h => by simpa [sput] using h8 (by simpa [did] using h), fun h => by simpa [sput] using h9 (by simpa [did] using h), fun h => by simpa [sput] using h10 (by simpa [did] using h), fun h => by simpa [sput] using h11 (by simpa [did] using h), fun h => by simpa [sput] using h12 (by simpa [did] using h), fun h => by simpa [sput] using h13 (by simpa [did] using h), fun h => by simpa [sput] using h14 (by simpa [did] using h), fun h => by simpa [sput] using h15 (by simpa [did] using h), fun h => by simpa [sput] using h16 (by simpa [did] using h), fun h => by simpa [sput] using h17 (by simpa [did] using h), fun h => by simpa [sput] using h18 (by simpa [did] using h), fun _ => by simp [sput], fun h => by simpa [sput] using h20 (by simpa [did] using h), fun h => by simpa [sput] using h21 (by simpa [did] using h), fun h => by simpa [sput] using h22 (by simpa [did] using h), fun h => by simpa [sput] using h23 (by simpa [did] using h), fun h => by simpa [sput] using h24 (by simpa [did] using h), fun h => by simpa [sput] using h25 (by simpa [did] using h), hT⟩
              · unfold OpSteps
                simp [go_sem, evS, f6]
                exact ⟨fun h => by simpa [sput] using h0 (by simpa [did] using h), fun h => by simpa [sput] using h1 (by simpa [did] using h), fun h => by simpa [sput] using h2 (by simpa [did] using h), fun h => by simpa [sput] using h3 (by simpa [did] using h), fun h => by simpa [sput] using h4 (by simpa [did] using h), fun h => by simpa [sput] using h5 (by simpa [did] using h), fun h => by simpa [sput] using h6 (by simpa [did] using h), fun h => by simpa [sput] using h7 (by simpa [did] using h), fun h => by simpa [sput] using h8 (by simpa [did] using h), fun h => by simpa [sput] using h9 (by simpa [did] using h), fun h => by simpa [sput] using h10 (by simpa [did] using h), fun h => by simpa [sput] using h11 (by simpa [did] using h), fun h => by simpa [sput] using h12 (by simpa [did] using h), fun h => by simpa [sput] using h13 (by simpa [did] using h), fun h => by simpa [sput] using h14 (by simpa [did] using h), fun h => by simpa [sput] using h15 (by simpa [did] using h), fun h => by simpa [sput] using h16 (by simpa [did] using h), fun h => by simpa [sput] using h17 (by simpa [did] using h), fun h => by simpa [sput] using h18 (by simpa [did] using h), fun h => by simpa [sput] using h19 (by simpa [did] using h), fun _ => by simp [sput], fun h => by simpa [sput] using h21 (by simpa [did] using h), fun h => by simpa [sput] using h22 (by simpa [did] using h), fun h => by simpa [sput] using h23 (by simpa [did] using h), fun h => by simpa [sput] using h24 (by simpa [did] using h), fun h => by simpa [sput] using h25 (by simpa [did] using h), hT⟩
              · have fz20 := h20 (by simp [hdep])
                unfold OpSteps
                simp [go_sem, evS, fz20, r3, c3, a3]
                exact ⟨fun h => by simpa [sput] using h0 (by simpa [did] using h), fun h => by simpa [sput] using h1 (by simpa [did] using h), fun h => by simpa [sput] using h2 (by simpa [did] using h), fun h => by simpa [sput] using h3 (by simpa [did] using h), fun h => by simpa [sput] using h4 (by simpa [did] using h), fun h => by simpa [sput] using h5 (by simpa [did] using h), fun h => by simpa [sput] using h6 (by simpa [did] using h), fun h => by simpa [sput] using h7 (by simpa [did] using h), fun h => by simpa [sput] using h8 (by simpa [did] using h), fun h => by simpa [sput] using h9 (by simpa [did] using h), fun h => by simpa [sput] using h10 (by simpa [did] using h), fun h => by simpa [sput] using h11 (by simpa [did] using h), fun h => by simpa [sput] using h12 (by simpa [did] using h), fun h => by simpa [sput] using h13 (by simpa [did] using h), fun h => by simpa [sput] using h14 (by simpa [did] using h), fun h => by simpa [sput] using h15 (by simpa [did] using h), fun h => by simpa [sput] using h16 (by simpa [did] using h), fun h => by simpa [sput] using h17 (by simpa [did] using h), fun h => by simpa [sput] using h18 (by simpa [did] using h), fun h => by simpa [sput] using h19 (by simpa [did] using h), fun h => by simpa [sput] using h20 (by simpa [did] using h), fun _ => by simp [sput], fun h => by simpa [sput] using h22 (by simpa [did] using h), fun h => by simpa [sput] using h23 (by simpa [did] using h), fun h => by simpa [sput] using h24 (by simpa [did] using h), fun h => by simpa [sput] using h25 (by simpa [did] using h), hT⟩
              · have fz19 := h19 (by simp [hdep])
                have fz21 := h21 (by simp [hdep])
                unfold OpSteps
                simp [go_sem, evS, fz19, fz21, l0, l1, l2, l3]
                exact ⟨fun h => by simpa [sput] using h0 (by simpa [did] using h), fun h => by simpa [sput] using h1 (by simpa [did] using h), fun h => by simpa [sput] using h2 (by simpa [did] using h), fun h => by simpa [sput] using h3 (by simpa [did] using h), fun h => by simpa [sput] using h4 (by simpa [did] using h), fun h => by simpa [sput] using h5 (by simpa [did] using h), fun h => by simpa [sput] using h6 (by simpa [did] using h), fun h => by simpa [sput] using h7 (by simpa [did] using h), fun h => by simpa [sput] using h8 (by simpa [did] using h), fun h => by simpa [sput] using h9 (by simpa [did] using h), fun h => by simpa [sput] using h10 (by simpa [did] using h), fun h => by simpa [sput] using h11 (by simpa [did] using h), fun h => by simpa [sput] using h12 (by simpa [did] using h), fun h => by simpa [sput] using h13 (by simpa [did] using h), fun h => by simpa [sput] using h14 (by simpa [did] using h), fun h => by simpa [sput] using h15 (by simpa [did] using h), fun h => by simpa [sput] using h16 (by simpa [did] using h), fun h => by simpa [sput] using h17 (by simpa [did] using h), fun h => by simpa [sput] using h18 (by simpa [did] using h), fun h => by simpa [sput] using h19 (by simpa [did] using h), fun h => by simpa [sput] using h20 (by simpa [did] using h), fun h => by simpa [sput] using h21 (by simpa [did] using h), fun _ => by simp [sput], fun h => by simpa [sput] using h23 (by simpa [did] using h), fun h => by simpa [sput] using h24 (by simpa [did] using h), fun h => by simpa [sput] using h25 (by simpa [did] using h), hT⟩
              · have fz22 := h22 (by simp [hdep])
                unfold OpSteps
                have pc := cell_below z3 hT
                simp [go_sem, evS, fz22, pc]
                exact ⟨fun h => by simpa [sput] using h0 (by simpa [did] using h), fun h => by simpa [sput] using h1 (by simpa [did] using h), fun h => by simpa [sput] using h2 (by simpa [did] using h), fun h => by simpa [sput] using h3 (by simpa [did] using h), fun h => by simpa [sput] using h4 (by simpa [did] using h), fun h => by simpa [sput] using h5 (by simpa [did] using h), fun h => by simpa [sput] using h6 (by simpa [did] using h), fun h => by simpa [sput] using h7 (by simpa [did] using h), fun h => by simpa [sput] using h8 (by simpa [did] using h), fun h => by simpa [sput] using h9 (by simpa [did] using h), fun h => by simpa [sput] using h10 (by simpa [did] using h), fun h => by simpa [sput] using h11 (by simpa [did] using h), fun h => by simpa [sput] using h12 (by simpa [did] using h), fun h => by simpa [sput] using h13 (by simpa [did] using h), fun h => by simpa [sput] using h14 (by simpa [did] using h), fun h => by simpa [sput] using h15 (by simpa [did] using h), fun h => by simpa [sput] using h16 (by simpa [did] using h), fun h => by simpa [sput] using h17 (by simpa [did] using h), fun h => by simpa [sput] using h18 (by simpa [did] using h), fun h => by simpa [sput] using h19 (by simpa [did] using h), fun h => by simpa [sput] using h20 (by simpa [did] using h), fun h => by simpa [sput] using h21 (by simpa [did] using h), fun h => by simpa [sput] using h22 (by simpa [did] using h), fun _ => by simp [sput], fun h => by simpa [sput] using h24 (by simpa [did] using h), fun h => by simpa [sput] using h25 (by simpa [did] using h), hT⟩
              · have fz18 := h18 (by simp [hdep])
                have fz23 := h23 (by simp [hdep])
                unfold OpSteps
                simp [go_sem, evS, fz18, fz23, k5, w5]
                exact ⟨fun h => by simpa [sput] using h0 (by simpa [did] using h), fun h => by simpa [sput] using h1 (by simpa [did] using h), fun h => by simpa [sput] using h2 (by simpa [did] using h), fun h => by simpa [sput] using h3 (by simpa [did] using h), fun h => by simpa [sput] using h4 (by simpa [did] using h), fun h => by simpa [sput] using h5 (by simpa [did] using h), fun h => by simpa [sput] using h6 (by simpa [did] using h), fun h => by simpa [sput] using h7 (by simpa [did] using h), fun h => by simpa [sput] using h8 (by simpa [did] using h), fun h => by simpa [sput] using h9 (by simpa [did] using h), fun h => by simpa [sput] using h10 (by simpa [did] using h), fun h => by simpa [sput] using h11 (by simpa [did] using h), fun h => by simpa [sput] using h12 (by simpa [did] using h), fun h => by simpa [sput] using h13 (by simpa [did] using h), fun h => by simpa [sput] using h14 (by simpa [did] using h), fun h => by simpa [sput] using h15 (by simpa [did] using h), fun h => by simpa [sput] using h16 (by simpa [did] using h), fun h => by simpa [sput] using h17 (by simpa [did] using h), fun h => by simpa [sput] using h18 (by simpa [did] using h), fun h => by simpa [sput] using h19 (by simpa [did] using h), fun h => by simpa [sput] using h20 (by simpa [did] using h), fun h => by simpa [sput] using h21 (by simpa [did] using h), fun h => by simpa [sput] using h22 (by simpa [did] using h), fun h => by simpa [sput] using h23 (by simpa [did] using h), fun _ => by simp [sput], fun h => by simpa [sput] using h25 (by simpa [did] using h), hT⟩
              · have fz24 := h24 (by simp [hdep])
                unfold OpSteps
                simp [go_sem, evS, fz24]
                exact ⟨fun h => by simpa [sput] using h0 (by simpa [did] using h), fun h => by simpa [sput] using h1 (by simpa [did] using h), fun h => by simpa [sput] using h2 (by simpa [did] using h), fun h => by simpa [sput] using h3 (by simpa [did] using h), fun h => by simpa [sput] using h4 (by simpa [did] using h), fun h => by simpa [sput] using h5 (by simpa [did] using h), fun h => by simpa [sput] using h6 (by simpa [did] using h), fun h => by simpa [sput] using h7 (by simpa [did] using h), fun h => by simpa [sput] using h8 (by simpa [did] using h), fun h => by simpa [sput] using h9 (by simpa [did] using h), fun h => by simpa [sput] using h10 (by simpa [did] using h), fun h => by simpa [sput] using h11 (by simpa [did] using h), fun h => by simpa [sput] using h12 (by simpa [did] using h), fun h => by simpa [sput] using h13 (by simpa [did] using h), fun h => by simpa [sput] using h14 (by simpa [did] using h), fun h => by simpa [sput] using h15 (by simpa [did] using h), fun h => by simpa [sput] using h16 (by simpa [did] using h), fun h => by simpa [sput] using h17 (by simpa [did] using h), fun h => by simpa [sput] using h18 (by simpa [did] using h), fun h => by simpa [sput] using h19 (by simpa [did] using h), fun h => by simpa [sput] using h20 (by simpa [did] using h), fun h => by simpa [sput] using h21 (by simpa [did] using h), fun h => by simpa [sput] using h22 (by simpa [did] using h), fun h => by simpa [sput] using h23 (by simpa [did] using h), fun h => by simpa [sput] using h24 (by simpa [did] using h), fun _ => by simp [sput], hT⟩
            intro d s W hJ hd
            obtain ⟨h0, h1, h2, h3, h4, h5, h6, h7, h8, h9, h10, h11, h12, h13, h14, h15, h16, h17, h18, h19, h20, h21, h22, h23, h24, h25, hT⟩ := hJ
            have hs7 := h25 (hd 25 (by decide))
            have HBe := Lib.hid hT
            clear h0 h1 h2 h3 h4 h5 h6 h7 h8 h9 h10 h11 h12 h13 h14 h15 h16 h17 h18 h19 h20 h21 h22 h23 h24 h25 hT hd
            simp [setAll, hs7]
            clear hs7
            obtain ⟨k6, w6, w7⟩ := HK6.out
            have x1 : v ≤ v1 := by rw [HV1.out]; exact Nat.le_succ _
            have x2 : v1 ≤ 16 := by rw [HV1.out]; exact HV6.out
            have HA := Lib.hid (And.intro a1 (And.intro a2 a3))
            clear a1 a2 a3 c1 c2 c3 r1 r2 r3 l1 l2 l3 z0 z1 z2 z3 k0 k1 k2 k3 k4 k5 w0 w1' w2 w3 w4 w5 hws
            have x3 : min j (hexN (hv b)).length + (v1 - v) ≤ 9223372036854775807 := by have := HJn.out; have := HNl.out; have := x2; omega
            obtain ⟨b4, b5, b6⟩ := HF4.out
            have hw4 : (i0 : Int) + 4 = (i4 : Int) := b5
            go_wp2_with fail
            clear hw4 b4 b5 b6
            go_roundw
            case rel =>
              refine ⟨j + 1, i4, Lib.hid ⟨HJn.out, HQ.out.2⟩, ?_, rfl, below_nx HBq.out HBe.out⟩
              show Value.string (⟨((hexN (hv b)).take j).toArray⟩ ++ hexs.extract v v1) = _
              rw [HV1.out, hexs_cut HV6.out, str_snoc, hexN_next HNb.out HJn.out HN0.out]
            case measure => have := HQ.out; have := l0; simp [intOf]; omega
          · have hj := HJ0.out
            have hjN : (hexN (hv b)).take j = hexN (hv b) := by
              rw [List.take_of_length_le]; rw [hexN_length, HNb.out]; omega
            rw [hjN]
            have hl := hexN_length (hv b)
            rw [HNb.out] at hl
            have HNn := Lib.hid (show j = N by omega)
            have hNb : N ≤ 268435459 := by have := HJ.out; omega
            have u1 : decide (i0 < m') = false := by have := HJ.out; simp; omega
            obtain ⟨T, hT⟩ : ∃ T, hexN (hv b) = T := ⟨_, rfl⟩
            rw [hT] at hl ⊢
            have HD' := HD.out
            rw [hT] at HD'
            have HDt := Lib.hid HD'
            have s1 : 1 + T.length ≤ 9223372036854775807 := by omega
            have s2 : ¬ 9223372036854775807 < 1 + T.length := by omega
            have HRg := Lib.hid (fun W => rdigits_any E' W (by have := HE.out; omega))
            have hil : (Lib.itoa E').length ≤ 21 := Lib.itoa_length_le E' (by have := HE.out; omega) (by have := HE.out; omega)
            have HTl := Lib.hid (show T.length ≤ 268435459 by omega)
            have HIl := Lib.hid hil
            have HX3 := Lib.hid (HX2.out.below HBq.out HX2.out.lt)
            have HB3 := Lib.hid (below_nx HB2.out HBq.out)
            obtain ⟨a0, a1, a2⟩ := cells3 HX3.out
            clear hjN hT HD' hl hj hjn
            cases neg
            · go_wp2_with fail
              refine (HRg.out _).mono ?_
              rintro e w4 ⟨rfl, hb4⟩
              obtain ⟨I, hI⟩ : ∃ I, Lib.itoa E' = I := ⟨_, rfl⟩
              rw [hI] at HIl HDt ⊢
              have s5 : T.length + 1 + I.length ≤ 9223372036854775807 := by have := HTl.out; have := HIl.out; omega
              clear s1 s2
              go_wp2_with fail
              go_ret
              refine ⟨?_, below_nx HB3.out hb4⟩
              rw [HDt.out]
              show Ending.returned (Value.string (⟨T.toArray⟩ ++ ⟨([112] : List UInt8).toArray⟩ ++ ⟨I.toArray⟩)) = _
              rw [str_app, str_app]
              simp
            · have s3 : 1 + T.length + 1 ≤ 9223372036854775807 := by have := HTl.out; omega
              go_wp2_with fail
              refine (HRg.out _).mono ?_
              rintro e w4 ⟨rfl, hb4⟩
              obtain ⟨I, hI⟩ : ∃ I, Lib.itoa E' = I := ⟨_, rfl⟩
              rw [hI] at HIl HDt ⊢
              have s5 : 1 + T.length + 1 + I.length ≤ 9223372036854775807 := by have := HTl.out; have := HIl.out; omega
              clear s1 s2 s3
              go_wp2_with fail
              go_ret
              refine ⟨?_, below_nx HB3.out hb4⟩
              rw [HDt.out]
              show Ending.returned (Value.string (⟨([45] : List UInt8).toArray⟩ ++ ⟨T.toArray⟩ ++ ⟨([112] : List UInt8).toArray⟩ ++ ⟨I.toArray⟩)) = _
              rw [str_app, str_app, str_app]
              simp
      · have hr1 : (r : Int) ≠ 0 := by omega
        have hr2 : ((r : Int) == 0) = false := by simp; omega
        have HBl := Lib.hid hbl
        have hrow := HS.out.1.2.2.1
        have hlen := HS.out.1.1
        obtain ⟨b0, y0, rfl, hcs⟩ : ∃ b0 y0, B' = some ⟨b0, y0, none⟩ ∧ ∀ i v, (ints b')[i]? = some v → wr.cell? ⟨b0, y0 + i, none⟩ = some v := by
          rcases hrow with h | ⟨b0, y0, e, hc⟩
          · have : b' = [] := by simpa [ints] using h
            subst this
            simp at hlen; omega
          · exact ⟨b0, y0, e, hc⟩
        have HCs := Lib.hid hcs
        have HLt := Lib.hid (show m' + 1 ≤ N * 4 by have := HS.out.2.2.2; omega)
        have hil : (ints b').length = m' := by simp [ints, hlen]
        have HIl := Lib.hid hil
        obtain ⟨i0, hi, hz0, hz1, hz2⟩ := info_parts info_i64
        clear hr hbl hcs hrow hlen hil
        go_wp2_with (at_builtin; refine wpList_append_own _ rfl _ _ 30 rfl wr.heap.size 3 i0 (.int .i64 0) 1 8 Tryd.underlying30 hi hz0 hz1 hz2 rfl (by decide) _ 1 [.int .i64 0] rfl (own_lit wr (.int .i64 0)) ⟨b0, y0, none⟩ m' c' (ints b') rfl ?c0 ?c1 ?c2 ?c3 ?c4 ?c5 ?_)
        case c0 => rw [HIl.out, Nat.mul_one]
        case c1 => exact fun j u hu => by rw [add_at]; exact cell_below (HCs.out j u hu) below_one
        case c2 => intro u hu; obtain ⟨z, _, rfl⟩ := List.mem_map.1 hu; rfl
        case c3 => unfold maxLen; omega
        case c4 => omega
        case c5 => simp
        intro v' w3 hown' hgrow _
        have hrd := own_rd (L := 0 :: b') (n := m' + 1) (by rw [Nat.add_comm]; exact hown') (Digs.cons (by omega) HS.out.1.2.2.2.1)
        obtain ⟨Am, cm, rfl, hRm, hcm⟩ := hrd
        have HBw := Lib.hid (below_nx HBl.out ((below_one (W := wr) (o := .cells #[.int .i64 0] 3)).grown hgrow (by simp) (fun k hk => by simp [Value.ownBlock] at hk; omega)))
        have HRm := Lib.hid hRm
        clear hown' hgrow hRm
        go_wp2_with fail
        go_roundw
        case rel => exact ⟨Am, m' + 1, cm, 0 :: b', rfl, by omega, by have := HLt.out; have := HNm.out; have := HM.out; omega, Lib.hid ⟨HRm.out, fun x hx => by
          rcases List.mem_cons.1 hx with rfl | hx
          · omega
          · exact HS.out.2.1 x hx, by rw [hv_zero]; exact HS.out.2.2.1, by have := HS.out.2.2.2; omega, HLt.out⟩, HBw.out⟩
        case measure => have := HLt.out; simp; omega

end Go.Proofs.YtajcjpbfmpljkaaDoor
set_option linter.unusedVariables false
set_option linter.unusedSimpArgs false
namespace Go.Proofs.YtajcjpbfmpljkaaDoor
open Go.RowKit

/-- The value holds the number. -/
def DV (W : World) (v : Value) (d : Dyadic) : Prop :=
  ∃ (neg : Bool) (A : Option Addr) (n c : Nat) (E : Int) (l : List Nat), v = .agg #[.bool neg, .slice A n c, .int .i64 E] ∧ Rd W A n c l ∧ Neat neg l E ∧ rdy neg l E = d
theorem DV.below {W W' : World} {v : Value} {d : Dyadic} (h : DV W v d) (hb : Below W.heap.size W W') : DV W' v d := by
  obtain ⟨neg, A, n, c, E, l, h1, h2, h3, h4⟩ := h
  exact ⟨neg, A, n, c, E, l, h1, h2.below hb, h3, h4⟩
theorem RetR.dv {d : Dyadic} {w : World} {e : Ending} {w' : World} (h : RetR d w e w') : ∃ v, e = .returned v ∧ DV w' v d ∧ Below w.heap.size w w' := by
  obtain ⟨neg, A, n, c, E, l, h1, h2, h3, h4, h5⟩ := h
  exact ⟨_, h1, ⟨neg, A, n, c, E, l, rfl, h2, h3, h4⟩, h5⟩
/-- The number lies in few digits. -/
def Fitd (d : Dyadic) : Prop := ∃ (lo : Int) (k : Nat) (m : Int), lo.natAbs ≤ 268435456 ∧ k ≤ 268435456 ∧ d = dy m (16 * lo) ∧ m.natAbs < 65536 ^ k
theorem sgd_abs (neg : Bool) (m : Nat) : (sgd neg m).natAbs = m := by unfold sgd; cases neg <;> simp
theorem fitd_of {m e : Int} {j : Nat} (h : m.natAbs < 2 ^ j) (hj : j ≤ 268435440) (he : e.natAbs ≤ 268435456) : Fitd (dy m e) := by
  obtain ⟨r, hr⟩ : ∃ r : Nat, (r : Int) = e % 16 := ⟨(e % 16).toNat, by omega⟩
  refine ⟨e / 16, j + 1, m * 2 ^ r, by omega, by omega, ?_, ?_⟩
  · rw [dy_pow]; congr 1; omega
  · rw [Int.natAbs_mul, Int.natAbs_pow, pow16]
    have h1 : 2 ^ r ≤ 2 ^ 16 := Nat.pow_le_pow_right (by omega) (by omega)
    have h2 : m.natAbs * 2 ^ r < 2 ^ j * 2 ^ 16 := Nat.mul_lt_mul_of_lt_of_le h h1 (Nat.pow_pos (by omega))
    rw [← Nat.pow_add] at h2
    exact Nat.lt_of_lt_of_le h2 (Nat.pow_le_pow_right (by omega) (by omega))
theorem last_ge {l : List Nat} (hD : Digs 65536 l) (hl : l ≠ []) (h : l.getLast? ≠ some 0) : 65536 ^ (l.length - 1) ≤ ofd 65536 l := by
  have h1 := digs_ofd (B := 65536) (by omega) hD h
  have h2 : ofd 65536 l ≠ 0 := by
    intro e
    rw [e, digs_zero] at h1
    exact hl h1.symm
  have := digs_pow_le (B := 65536) (by omega) h2
  rw [h1] at this
  exact this
theorem head_mod {l : List Nat} (hD : Digs 65536 l) (hl : l ≠ []) (h : l.head? ≠ some 0) : ofd 65536 l % 65536 ≠ 0 := by
  cases l with
  | nil => exact absurd rfl hl
  | cons d l =>
    have hd := hD.head
    rw [ofd_cons, Nat.add_mul_mod_self_left, Nat.mod_eq_of_lt hd]
    simpa using h
/-- Where its digits lie. -/
theorem neat_in {neg : Bool} {l : List Nat} {E lo m : Int} {k : Nat} (hN : Neat neg l E) (hD : Digs 65536 l) (h : rdy neg l E = dy m (16 * lo)) (hm : m.natAbs < 65536 ^ k) : l = [] ∨ (lo ≤ E ∧ E + l.length ≤ lo + k) := by
  rcases hN with ⟨h0, _, _⟩ | ⟨hl, h1, h2⟩
  · exact .inl h0
  · right
    have hh := head_mod hD hl h1
    have hg := last_ge hD hl h2
    have hlen : 0 < l.length := List.length_pos_iff.2 hl
    rw [rdy_sgd] at h
    rcases Int.lt_or_le E lo with hlt | hge
    · exfalso
      obtain ⟨a, ha⟩ : ∃ a : Nat, E + a = lo := ⟨(lo - E).toNat, by omega⟩
      have ha1 : 1 ≤ a := by omega
      rw [← ha, show 16 * (E + a) = 16 * E + ((16 * a : Nat) : Int) by omega, ← dy_pow, dy_eq] at h
      have h3 := congrArg Int.natAbs h
      rw [sgd_abs, Int.natAbs_mul, Int.natAbs_pow] at h3
      have h4 : (2 : Int).natAbs ^ (16 * a) = 65536 * 65536 ^ (a - 1) := by
        rw [← Nat.pow_succ', show (a - 1).succ = a by omega, pow16]; rfl
      rw [h4, Nat.mul_left_comm] at h3
      rw [h3] at hh
      exact hh (Nat.mul_mod_right _ _)
    · obtain ⟨a, ha⟩ : ∃ a : Nat, lo + a = E := ⟨(E - lo).toNat, by omega⟩
      refine ⟨hge, ?_⟩
      rw [← ha, show 16 * (lo + a) = 16 * lo + ((16 * a : Nat) : Int) by omega, ← dy_pow, dy_eq] at h
      have h3 := congrArg Int.natAbs h
      rw [Int.natAbs_mul, sgd_abs, Int.natAbs_pow] at h3
      have h4 : (2 : Int).natAbs ^ (16 * a) = 65536 ^ a := by rw [pow16]; rfl
      rw [h4] at h3
      have h5 : 65536 ^ (l.length - 1 + a) ≤ ofd 65536 l * 65536 ^ a := by rw [Nat.pow_add]; exact Nat.mul_le_mul_right _ hg
      have h6 : l.length - 1 + a < k := by
        rcases Nat.lt_or_ge (l.length - 1 + a) k with h | h
        · exact h
        · have := Nat.pow_le_pow_right (show 0 < 65536 by omega) h
          omega
      omega
/-- A number that fits: how many digits, from where. -/
theorem fitd_in {neg : Bool} {l : List Nat} {E : Int} (hN : Neat neg l E) (hD : Digs 65536 l) (h : Fitd (rdy neg l E)) : l.length ≤ 268435456 ∧ E.natAbs ≤ 536870912 := by
  obtain ⟨lo, k, m, h1, h2, h3, h4⟩ := h
  rcases neat_in hN hD h3 h4 with h5 | ⟨h5, h6⟩
  · subst h5
    rcases hN with ⟨_, _, h0⟩ | ⟨h0, _⟩
    · subst h0; simp
    · exact absurd rfl h0
  · omega
end Go.Proofs.YtajcjpbfmpljkaaDoor
set_option linter.unusedVariables false
set_option linter.unusedSimpArgs false
set_option linter.unnecessarySimpa false
namespace Go.Proofs.YtajcjpbfmpljkaaDoor
open Go.RowKit
attribute [local go_sem ↓] Go.wp_at_zero Go.wp_at_succ

/-- The call returned a value that holds the number. -/
def RetV (d : Dyadic) (w : World) (e : Ending) (w' : World) : Prop := ∃ v, e = .returned v ∧ DV w' v d ∧ Below w.heap.size w w'
theorem RetR.retv {d : Dyadic} {w : World} {e : Ending} {w' : World} (h : RetR d w e w') : RetV d w e w' := h.dv
/-- What the value is. -/
theorem DV.parts {W : World} {v : Value} {d : Dyadic} (h : DV W v d) (hf : Fitd d) :
    ∃ (neg : Bool) (A : Option Addr) (n c : Nat) (E : Int) (l : List Nat), v = .agg #[.bool neg, .slice A n c, .int .i64 E] ∧ Rd W A n c l ∧ Neat neg l E ∧ rdy neg l E = d ∧ n ≤ 268435456 ∧ E.natAbs ≤ 536870912 := by
  obtain ⟨neg, A, n, c, E, l, h1, h2, h3, h4⟩ := h
  have := fitd_in h3 h2.2.2.2.1 (by rw [h4]; exact hf)
  exact ⟨neg, A, n, c, E, l, h1, h2, h3, h4, by rw [h2.1]; exact this.1, this.2⟩
theorem dy_one (m e k : Int) : dy m e * dy 1 k = dy m (e + k) := by rw [dy_mul, Int.mul_one]
theorem rshift_v {v : Value} {d : Dyadic} {w : World} (k : Int) (hk : k.natAbs ≤ 1099511627776) (h : DV w v d) (hf : Fitd d) :
    Calls Tryd.prog 10 #[v, .int .i64 k] w (RetV (d * dy 1 k) w) := by
  obtain ⟨neg, A, n, c, E, l, rfl, h2, h3, rfl, h5, h6⟩ := h.parts hf
  refine (rshift_any neg A n c l E k w h2 (by omega) (by omega) (by omega)).mono fun e w' h => ?_
  have := h.retv
  rw [← dy_one] at this
  exact this
theorem rint_v (k : Int) (w : World) (h0 : -9223372036854775808 ≤ k) (h1 : k ≤ 9223372036854775807) :
    Calls Tryd.prog 7 #[.int .i64 k] w (RetV (dy k 0) w) := (rint_any k w h0 h1).mono fun e w' h => h.retv
/-- The box holds the number. -/
def Bx (W : World) (g : Nat) (d : Dyadic) : Prop := ∃ (neg : Bool) (A : Option Addr) (n c : Nat) (E : Int) (l : List Nat), Blk W g 32 #[.bool neg, .slice A n c, .int .i64 E] ∧ Rd W A n c l ∧ Neat neg l E ∧ rdy neg l E = d
theorem Bx.below {W W' : World} {g : Nat} {d : Dyadic} (h : Bx W g d) (hb : Below W.heap.size W W') : Bx W' g d := by
  obtain ⟨neg, A, n, c, E, l, h1, h2, h3, h4⟩ := h
  exact ⟨neg, A, n, c, E, l, h1.next hb, h2.below hb, h3, h4⟩
theorem DV.far {W : World} {v : Value} {d : Dyadic} (h : DV W v d) {g : Nat} {t : TypeId} {cs : Array Value} (hB : Blk W g t cs) (ht : t ≠ 3) (i : Nat) (u : Value) : DV (W.setCell ⟨g, i, none⟩ u) v d := by
  obtain ⟨neg, A, n, c, E, l, h1, h2, h3, h4⟩ := h
  exact ⟨neg, A, n, c, E, l, h1, h2.far hB ht i u, h3, h4⟩
theorem Bx.lt {W : World} {g : Nat} {d : Dyadic} (h : Bx W g d) : g < W.heap.size := by
  obtain ⟨neg, A, n, c, E, l, h1, h2, h3, h4⟩ := h
  exact h1.lt
end Go.Proofs.YtajcjpbfmpljkaaDoor
set_option linter.unusedVariables false
namespace Go.Proofs.YtajcjpbfmpljkaaDoor
open Go.RowKit

/-- Below 2^k, and a multiple of 2^-k. -/
def Sz (k : Nat) (d : Dyadic) : Prop := ∃ m : Int, d = dy m (-(k : Int)) ∧ m.natAbs < 2 ^ (2 * k)
theorem Sz.fit {k : Nat} {d : Dyadic} (h : Sz k d) (hk : k ≤ 134217720) : Fitd d := by
  obtain ⟨m, rfl, hm⟩ := h
  exact fitd_of hm (by omega) (by omega)
theorem Sz.mono {j k : Nat} {d : Dyadic} (h : Sz j d) (hk : j ≤ k) : Sz k d := by
  obtain ⟨m, rfl, hm⟩ := h
  refine ⟨m * 2 ^ (k - j), by rw [dy_pow]; congr 1; omega, ?_⟩
  have e : ((2 : Int) ^ (k - j)).natAbs = 2 ^ (k - j) := by rw [Int.natAbs_pow]; rfl
  rw [Int.natAbs_mul, e]
  have h1 : m.natAbs * 2 ^ (k - j) < 2 ^ (2 * j) * 2 ^ (k - j) := Nat.mul_lt_mul_of_pos_right hm (Nat.two_pow_pos _)
  rw [← Nat.pow_add] at h1
  exact Nat.lt_of_lt_of_le h1 (Nat.pow_le_pow_right (by omega) (by omega))
theorem Sz.add_ {k : Nat} {a b : Dyadic} (h : Sz k a) (h' : Sz k b) : Sz (k + 1) (a + b) := by
  obtain ⟨m, rfl, hm⟩ := h
  obtain ⟨n, rfl, hn⟩ := h'
  refine ⟨(m + n) * 2 ^ 1, by rw [dy_add, dy_pow]; congr 1; omega, ?_⟩
  rw [show 2 * (k + 1) = 2 * k + 2 by omega, Nat.pow_add]
  generalize 2 ^ (2 * k) = P at *
  omega
theorem Sz.add {j k n : Nat} {a b : Dyadic} (h : Sz j a) (h' : Sz k b) (hj : j < n) (hk : k < n) : Sz n (a + b) := by
  obtain ⟨n', rfl⟩ : ∃ n', n = n' + 1 := ⟨n - 1, by omega⟩
  exact (h.mono (by omega)).add_ (h'.mono (by omega))
theorem Sz.neg {k : Nat} {a : Dyadic} (h : Sz k a) : Sz k (-a) := by
  obtain ⟨m, rfl, hm⟩ := h
  exact ⟨-m, by rw [dy_neg], by omega⟩
theorem Sz.mul {j k n : Nat} {a b : Dyadic} (h : Sz j a) (h' : Sz k b) (hn : j + k ≤ n) : Sz n (a * b) := by
  refine Sz.mono (j := j + k) ?_ hn
  obtain ⟨m, rfl, hm⟩ := h
  obtain ⟨q, rfl, hq⟩ := h'
  refine ⟨m * q, by rw [dy_mul]; congr 1; omega, ?_⟩
  rw [Int.natAbs_mul, show 2 * (j + k) = 2 * j + 2 * k by omega, Nat.pow_add]
  exact Nat.mul_lt_mul'' hm hq
theorem Sz.int {z : Int} {k : Nat} (h : z.natAbs < 2 ^ k) : Sz k (dy z 0) := by
  refine ⟨z * 2 ^ k, by rw [dy_pow]; congr 1; omega, ?_⟩
  have e : ((2 : Int) ^ k).natAbs = 2 ^ k := by rw [Int.natAbs_pow]; rfl
  rw [Int.natAbs_mul, e, show 2 * k = k + k by omega, Nat.pow_add]
  exact Nat.mul_lt_mul_of_pos_right h (Nat.two_pow_pos _)
theorem Sz.pow (s : Int) : Sz (s.natAbs + 1) (dy 1 s) := by
  obtain ⟨t, ht⟩ : ∃ t : Nat, (t : Int) = s + ((s.natAbs + 1 : Nat) : Int) := ⟨(s + ((s.natAbs + 1 : Nat) : Int)).toNat, by omega⟩
  refine ⟨1 * 2 ^ t, by rw [dy_pow]; congr 1; omega, ?_⟩
  have e : ((2 : Int) ^ t).natAbs = 2 ^ t := by rw [Int.natAbs_pow]; rfl
  rw [Int.natAbs_mul, e, show (1 : Int).natAbs = 1 from rfl, Nat.one_mul]
  exact Nat.pow_lt_pow_right (by omega) (by omega)
theorem Sz.shift {j n : Nat} {a : Dyadic} (h : Sz j a) (s : Int) (hn : j + s.natAbs + 1 ≤ n) : Sz n (a * dy 1 s) := h.mul (Sz.pow s) (by omega)
theorem Sz.float {b : Nat} (h : Fl.rung b < Fl.INF) : Sz 1074 (fdy b) := by
  obtain ⟨K, hK⟩ : ∃ K, K = 2098 := ⟨_, rfl⟩
  obtain ⟨J, hJ⟩ : ∃ J, J = 1074 := ⟨_, rfl⟩
  rw [← hJ]
  refine ⟨Fl.val b, by unfold fdy; congr 1; omega, ?_⟩
  exact Nat.lt_of_lt_of_le (val_lt_big K hK h) (Nat.pow_le_pow_right (by omega) (by omega))
theorem Sz.zero (k : Nat) : Sz k 0 := ⟨0, by rw [dy_zero], Nat.two_pow_pos _⟩
/-- A box that a pointer points to, made behind lo. -/
def NewB (W : World) (v : Value) (lo : Nat) : Prop := ∃ (g : Nat) (x0 x1 x2 : Value), v = .pointer (some ⟨g, 0, none⟩) ∧ Blk W g 32 #[x0, x1, x2] ∧ lo ≤ g
theorem NewB.below {W W' : World} {v : Value} {lo : Nat} (h : NewB W v lo) (hb : Below W.heap.size W W') : NewB W' v lo := by
  obtain ⟨g, x0, x1, x2, h1, h2, h3⟩ := h
  exact ⟨g, x0, x1, x2, h1, h2.next hb, h3⟩
/-- A pointer to a box that holds the number. -/
def BxP (W : World) (v : Value) (lo : Nat) (d : Dyadic) : Prop := ∃ g : Nat, v = .pointer (some ⟨g, 0, none⟩) ∧ Bx W g d ∧ lo ≤ g
theorem BxP.below {W W' : World} {v : Value} {lo : Nat} {d : Dyadic} (h : BxP W v lo d) (hb : Below W.heap.size W W') : BxP W' v lo d := by
  obtain ⟨g, h1, h2, h3⟩ := h
  exact ⟨g, h1, h2.below hb, h3⟩
end Go.Proofs.YtajcjpbfmpljkaaDoor
set_option linter.unusedVariables false
set_option linter.unusedSimpArgs false
namespace Go.Proofs.YtajcjpbfmpljkaaDoor
open Go.RowKit
attribute [local go_sem ↓] Go.wp_at_zero Go.wp_at_succ

/-- The value holds the number, as the program keeps it. -/
def PV (W : World) (v : Value) (d : Dyadic) : Prop := ∃ (A : Option Addr) (n c : Nat) (A' : Option Addr) (n' c' : Nat), v = .agg #[.bool (ng (mant d)), .slice A n c, .bool (ng (expo d)), .slice A' n' c'] ∧ Dr W A n c A' n' c' d
theorem PV.below {W W' : World} {v : Value} {d : Dyadic} (h : PV W v d) (hb : Below W.heap.size W W') : PV W' v d := by
  obtain ⟨A, n, c, A', n', c', h1, h2⟩ := h
  exact ⟨A, n, c, A', n', c', h1, h2.below hb⟩
theorem PV.drew {W : World} {v : Value} {d : Dyadic} (h : PV W v d) : PV W.drew v d := h
/-- The call returned a value that holds the number. -/
def RetP (d : Dyadic) (w : World) (e : Ending) (w' : World) : Prop := ∃ v, e = .returned v ∧ PV w' v d ∧ Below w.heap.size w w'
theorem RetD.retp {d : Dyadic} {w : World} {e : Ending} {w' : World} (h : RetD d w e w') : RetP d w e w' := by
  obtain ⟨A, n, c, A', n', c', h1, h2, h3⟩ := h
  exact ⟨_, h1, ⟨A, n, c, A', n', c', rfl, h2⟩, h3⟩
/-- The call returned a value that holds the number, and another number. -/
def RetPT (d : Dyadic) (r : Int) (w : World) (e : Ending) (w' : World) : Prop := ∃ v, e = .returned (.tuple #[v, .int .i64 r]) ∧ PV w' v d ∧ Below w.heap.size w w'
theorem RetT.retp {d : Dyadic} {r : Int} {w : World} {e : Ending} {w' : World} (h : RetT d r w e w') : RetPT d r w e w' := by
  obtain ⟨A, n, c, A', n', c', h1, h2, h3⟩ := h
  exact ⟨_, h1, ⟨A, n, c, A', n', c', rfl, h2⟩, h3⟩
theorem PV.zero (W : World) (A A' : Option Addr) (c c' : Nat) : PV W (.agg #[.bool false, .slice A 0 c, .bool false, .slice A' 0 c']) 0 :=
  ⟨A, 0, c, A', 0, c', rfl, ⟨Wh.zero _ _ _, Wh.zero _ _ _⟩⟩
/-- The number isn't too great for the program's calls. -/
def Fitp (d : Dyadic) : Prop := wl (mant d) ≤ 137438953472 ∧ (expo d).natAbs ≤ 1000000000000000000
theorem two_q (k : Nat) : 2 ^ (2 * k) ≤ Q ^ k := by
  rw [Nat.pow_mul]
  exact Nat.pow_le_pow_left (by unfold Q; omega) k
theorem Sz.fitp {k : Nat} {d : Dyadic} (h : Sz k d) (hk : k ≤ 134217720) : Fitp d := by
  obtain ⟨m, rfl, hm⟩ := h
  by_cases h0 : m = 0
  · subst h0
    rw [dy_zero]
    exact ⟨by rw [mant_zero]; exact Nat.le_trans (Nat.le_of_eq ((wl_zero 0).2 rfl)) (Nat.zero_le _), by rw [expo_zero]; decide⟩
  · obtain ⟨y, v, hz, hy, ha, hb, hc⟩ := odd_part m h0
    obtain ⟨e1, e2⟩ := dy_parts (e := -(k : Int)) hz hy
    have hp : 1 ≤ 2 ^ v := Nat.one_le_two_pow
    have hy1 : 1 ≤ y.natAbs := by omega
    have hle : y.natAbs ≤ m.natAbs := by rw [ha]; exact Nat.le_mul_of_pos_right _ hp
    have hle2 : 2 ^ v ≤ m.natAbs := by rw [ha]; exact Nat.le_mul_of_pos_left _ hy1
    have hv : v < 2 * k := by
      rcases Nat.lt_or_ge v (2 * k) with h | h
      · exact h
      · have := Nat.pow_le_pow_right (show 0 < 2 by omega) h; omega
    refine ⟨?_, by rw [e2]; omega⟩
    rw [e1]
    refine Nat.le_trans ((wl_le y k).2 ?_) (by omega)
    have := two_q k
    omega
theorem pint_v (k : Int) (w : World) (h0 : -9223372036854775808 ≤ k) (h1 : k ≤ 9223372036854775807) (hg : Glob w) :
    Calls Tryd.prog 5 #[.int .i64 k] w (RetP (dy k 0) w) := (int_any k w h0 h1 hg).mono fun e w' h => h.retp
theorem pof_v (b : Nat) (w : World) (hb : b < 18446744073709551616) (hg : Glob w) :
    Calls Tryd.prog 11 #[.float .f64 b] w (RetPT (if Fl.fin b then fdy b else 0) (if Fl.fin b then 0 else 8) w) := (of_any b w hb hg).mono fun e w' h => h.retp
theorem pshift_v {v : Value} {d : Dyadic} {w : World} (k : Int) (h : PV w v d) (hf : Fitp d) (hg : Glob w) :
    Calls Tryd.prog 9 #[v, .int .i64 k] w (RetP (d * dy 1 (far k)) w) := by
  obtain ⟨A, n, c, A', n', c', rfl, h1, h2⟩ := h
  have := shift_any A n c (mant d) A' n' c' (expo d) k w h1 h2 (by rw [h1.1]; exact hf.1) hf.2 hg
  rw [← dy_one, dy_mant] at this
  exact this.mono fun e w' h => h.retp
theorem ptext_v {v : Value} {d : Dyadic} {w : World} (h : PV w v d) (hf : Fitp d) (hg : Glob w) :
    Calls Tryd.prog 6 #[v] w fun e w' => e = .returned (.string ⟨(txt d).toArray⟩) ∧ Below w.heap.size w w' := by
  obtain ⟨A, n, c, A', n', c', rfl, h1, h2⟩ := h
  exact dtext_any A n c (mant d) A' n' c' (expo d) w h1 h2 (by rw [h1.1]; exact hf.1) (Nat.lt_of_le_of_lt hf.2 (by decide)) d rfl rfl hg
theorem rtext_v {v : Value} {d : Dyadic} {w : World} {k : Nat} (h : DV w v d) (hs : Sz k d) (hk : k ≤ 8388600) :
    Calls Tryd.prog 8 #[v] w fun e w' => e = .returned (.string ⟨(txt d).toArray⟩) ∧ Below w.heap.size w w' := by
  obtain ⟨neg, A, n, c, E, l, rfl, h2, h3, rfl, h5, h6⟩ := h.parts (hs.fit (by omega))
  refine rtext_any neg A n c l E w h2 ?_ (by omega)
  obtain ⟨m, hm, hb⟩ := hs
  obtain ⟨r, hr⟩ : ∃ r : Nat, (r : Int) = (-(k : Int)) % 16 := ⟨((-(k : Int)) % 16).toNat, by omega⟩
  have e : rdy neg l E = dy (m * 2 ^ r) (16 * ((-(k : Int)) / 16)) := by rw [hm, dy_pow]; congr 1; omega
  have hb2 : (m * 2 ^ r).natAbs < 65536 ^ (2 * k + 1) := by
    rw [Int.natAbs_mul, Int.natAbs_pow, pow16]
    have h1 : 2 ^ r ≤ 2 ^ 16 := Nat.pow_le_pow_right (by omega) (by omega)
    have h2 : m.natAbs * 2 ^ r < 2 ^ (2 * k) * 2 ^ 16 := Nat.mul_lt_mul_of_lt_of_le hb h1 (Nat.pow_pos (by omega))
    rw [← Nat.pow_add] at h2
    exact Nat.lt_of_lt_of_le h2 (Nat.pow_le_pow_right (by omega) (by omega))
  rw [h2.1]
  rcases neat_in h3 h2.2.2.2.1 e hb2 with h7 | ⟨h7, h8⟩
  · subst h7; simp
  · omega
end Go.Proofs.YtajcjpbfmpljkaaDoor
set_option linter.unusedVariables false
set_option linter.unusedSimpArgs false
set_option linter.unnecessarySimpa false
namespace Go.Proofs.YtajcjpbfmpljkaaDoor
open Go.RowKit
attribute [local go_sem ↓] Go.wp_at_zero Go.wp_at_succ

theorem awake_dy : fdy 4604930618986332160 = dy 3 (-2) := by
  rw [← fdy_digits (b := 4604930618986332160) (by decide +kernel) (by decide +kernel)]
  rw [show fdm 4604930618986332160 = 3 * 2 ^ 51 by decide +kernel, show Fl.de 4604930618986332160 = -53 by decide +kernel, dy_pow]
  rfl
theorem awake_txt : txt (dy 3 (-2)) = [51, 112, 45, 50] := by
  unfold txt
  rw [mant_dy 3 (-2) (by decide), expo_dy 3 (-2) (by decide)]
  decide +kernel
theorem sz_three : Sz 4 (dy 3 (-2)) := ⟨12, by rw [show dy 3 (-2) = dy (3 * 2 ^ 2) (-4) by rw [dy_pow]; rfl]; rfl, by decide⟩
theorem awakeD_any (w : World) (hg : Glob w) :
    Calls Tryd.prog 4 #[] w fun e w' => e = .returned (.bool true) ∧ Below w.heap.size w w' := by
  have HG := Lib.hid hg
  have HOf := fun W (hg : Glob W) => pof_v 4604930618986332160 W (by decide) hg
  rw [if_pos (by decide +kernel), if_pos (by decide +kernel), awake_dy] at HOf
  have HO := Lib.hid HOf
  have HT := Lib.hid (fun W v (h : PV W v (dy 3 (-2))) (hg : Glob W) => ptext_v h (sz_three.fitp (by omega)) hg)
  rw [awake_txt] at HT
  clear hg HOf
  go_enter Tryd.func4, Tryd.ntmps4
  go_wp2_with fail
  refine (HO.out _ HG.out).mono ?_
  rintro e w1 ⟨v, rfl, ⟨A, n, c, A', n', c', rfl, hd⟩, hb⟩
  have HB1 := Lib.hid hb
  have HD1 := Lib.hid hd
  have HG1 := Lib.hid (HG.out.below hb)
  clear hd hb
  go_wp2_with fail
  refine (HT.out _ _ ⟨A, n, c, A', n', c', rfl, HD1.out.below below_one⟩ (HG1.out.below below_one)).mono ?_
  rintro e w2 ⟨rfl, hb⟩
  have HB2 := Lib.hid (below_nx HB1.out (below_nx below_one hb))
  clear hb
  go_wp2_with fail
  go_ret
  exact ⟨rfl, HB2.out⟩
theorem far_le (k : Int) : (far k).natAbs ≤ 1048576 := by
  unfold far
  split
  · decide
  · split
    · decide
    · omega

set_option maxRecDepth 100000 in
set_option maxHeartbeats 4000000 in
theorem dints_mid (nn kk : Int) (w : World) (hz0 : -9223372036854775808 ≤ nn) (hz1 : nn ≤ 9223372036854775807) (hg : Glob w) (hk0 : -1048576 ≤ kk) (hk1 : kk ≤ 1048576) :
    Calls Tryd.prog 3 #[.int .i64 nn, .int .i64 kk] w fun e w' => e = .returned (.bool true) ∧ Below w.heap.size w w' := by
  have h64 : (2 : Nat) ^ 64 = 18446744073709551616 := by decide
  have hS1 : Sz 64 (dy nn 0) := Sz.int (by omega)
  have HFar := Lib.hid (show far kk = kk ∧ (kk : Int).natAbs ≤ 1099511627776 by unfold far; rw [if_neg (by omega), if_neg (by omega)]; omega)
  have ht1 : decide (1048576 < kk) = false := by simp; omega
  have ht2 : decide (kk < -1048576) = false := by simp; omega
  clear hk0 hk1
  obtain ⟨D1, hD1⟩ : ∃ D1, dy nn 0 = D1 := ⟨_, rfl⟩
  obtain ⟨D2, hD2⟩ : ∃ D2, D1 * dy 1 (far kk) = D2 := ⟨_, rfl⟩
  rw [hD1] at hS1
  have hS2 : Sz 1048700 D2 := by rw [← hD2]; exact hS1.shift (far kk) (by have := far_le kk; omega)
  have HD1 := Lib.hid hD1
  have HD2 := Lib.hid hD2
  have HS := Lib.hid (And.intro hS1 hS2)
  have HP := Lib.hid (And.intro (hS1.fitp (by omega)) (hS2.fitp (by omega)))
  have HZ := Lib.hid (And.intro hz0 hz1)
  have HG0 := Lib.hid hg
  clear hS1 hS2 hD1 hD2 hz0 hz1 hg h64
  go_enter Tryd.func3, Tryd.ntmps3
  go_wp2_with fail
  refine (awakeD_any w HG0.out).mono ?_
  rintro e W0 ⟨rfl, hb⟩
  have HB := Lib.hid hb
  have HG := Lib.hid (HG0.out.below hb)
  clear hb
  go_wp2_with fail
  refine (pint_v nn _ HZ.out.1 HZ.out.2 HG.out).mono ?_
  rintro e W1 ⟨vHa, rfl, hv, hb⟩
  have HBn := Lib.hid (below_nx HB.out hb)
  have HGn := Lib.hid (HG.out.below hb)
  have Ha := Lib.hid (show PV W1 vHa D1 from by rw [← HD1.out]; exact hv)
  clear HB HG hb
  have HB := HBn
  have HG := HGn
  clear HBn HGn
  clear hv
  go_wp2_with fail
  refine (ptext_v Ha.out HP.out.1 HG.out).mono ?_
  rintro e W2 ⟨rfl, hb⟩
  have HBn := Lib.hid (below_nx HB.out hb)
  have HGn := Lib.hid (HG.out.below hb)
  clear HB HG hb
  have HB := HBn
  have HG := HGn
  clear HBn HGn
  go_wp2_with fail
  refine (rint_v nn _ HZ.out.1 HZ.out.2).mono ?_
  rintro e W3 ⟨vHr, rfl, hv, hb⟩
  have HBn := Lib.hid (below_nx HB.out hb)
  have HGn := Lib.hid (HG.out.below hb)
  have Hr := Lib.hid (show DV W3 vHr D1 from by rw [← HD1.out]; exact hv)
  clear HB HG hb
  have HB := HBn
  have HG := HGn
  clear HBn HGn
  clear hv
  go_wp2_with fail
  refine (rtext_v Hr.out HS.out.1 (by omega)).mono ?_
  rintro e W4 ⟨rfl, hb⟩
  have HBn := Lib.hid (below_nx HB.out hb)
  have HGn := Lib.hid (HG.out.below hb)
  clear HB HG hb
  have HB := HBn
  have HG := HGn
  clear HBn HGn
  go_wp2_with fail
  refine (pint_v nn _ HZ.out.1 HZ.out.2 HG.out).mono ?_
  rintro e W5 ⟨vHc, rfl, hv, hb⟩
  have HBn := Lib.hid (below_nx HB.out hb)
  have HGn := Lib.hid (HG.out.below hb)
  have Hc := Lib.hid (show PV W5 vHc D1 from by rw [← HD1.out]; exact hv)
  clear HB HG hb
  have HB := HBn
  have HG := HGn
  clear HBn HGn
  clear hv
  go_wp2_with fail
  refine (pshift_v kk Hc.out HP.out.1 HG.out).mono ?_
  rintro e W6 ⟨vHd, rfl, hv, hb⟩
  have HBn := Lib.hid (below_nx HB.out hb)
  have HGn := Lib.hid (HG.out.below hb)
  have Hd := Lib.hid (show PV W6 vHd D2 from by rw [← HD2.out]; exact hv)
  clear HB HG hb
  have HB := HBn
  have HG := HGn
  clear HBn HGn
  clear hv
  go_wp2_with fail
  refine (ptext_v Hd.out HP.out.2 HG.out).mono ?_
  rintro e W7 ⟨rfl, hb⟩
  have HBn := Lib.hid (below_nx HB.out hb)
  have HGn := Lib.hid (HG.out.below hb)
  clear HB HG hb
  have HB := HBn
  have HG := HGn
  clear HBn HGn
  go_wp2_with fail
  refine (rint_v nn _ HZ.out.1 HZ.out.2).mono ?_
  rintro e W8 ⟨vHf, rfl, hv, hb⟩
  have HBn := Lib.hid (below_nx HB.out hb)
  have HGn := Lib.hid (HG.out.below hb)
  have Hf := Lib.hid (show DV W8 vHf D1 from by rw [← HD1.out]; exact hv)
  clear HB HG hb
  have HB := HBn
  have HG := HGn
  clear HBn HGn
  clear hv
  go_wp2_with fail
  refine (rshift_v kk HFar.out.2 Hf.out (HS.out.1.fit (by omega))).mono ?_
  rintro e W9 ⟨vHg, rfl, hv, hb⟩
  have HBn := Lib.hid (below_nx HB.out hb)
  have HGn := Lib.hid (HG.out.below hb)
  have Hg := Lib.hid (show DV W9 vHg D2 from by rw [← HD2.out, HFar.out.1]; exact hv)
  clear HB HG hb
  have HB := HBn
  have HG := HGn
  clear HBn HGn
  clear hv
  go_wp2_with fail
  refine (rtext_v Hg.out HS.out.2 (by omega)).mono ?_
  rintro e W10 ⟨rfl, hb⟩
  have HBn := Lib.hid (below_nx HB.out hb)
  have HGn := Lib.hid (HG.out.below hb)
  clear HB HG hb
  have HB := HBn
  have HG := HGn
  clear HBn HGn
  go_wp2_with fail
  refine (awakeD_any _ HG.out).mono ?_
  rintro e W11 ⟨rfl, hb⟩
  have HBn := Lib.hid (below_nx HB.out hb)
  have HGn := Lib.hid (HG.out.below hb)
  clear HB HG hb
  have HB := HBn
  have HG := HGn
  clear HBn HGn
  go_wp2_with fail
  go_ret
  exact ⟨rfl, HB.out⟩

set_option maxRecDepth 100000 in
set_option maxHeartbeats 4000000 in
theorem dints_hi (nn kk : Int) (w : World) (hz0 : -9223372036854775808 ≤ nn) (hz1 : nn ≤ 9223372036854775807) (hg : Glob w) (hk0 : 1048576 < kk) :
    Calls Tryd.prog 3 #[.int .i64 nn, .int .i64 kk] w fun e w' => e = .returned (.bool true) ∧ Below w.heap.size w w' := by
  have h64 : (2 : Nat) ^ 64 = 18446744073709551616 := by decide
  have hS1 : Sz 64 (dy nn 0) := Sz.int (by omega)
  have HFar := Lib.hid (show far kk = 1048576 ∧ (1048576 : Int).natAbs ≤ 1099511627776 by unfold far; rw [if_neg (by omega), if_pos hk0]; omega)
  have ht1 : decide (1048576 < kk) = true := by simp; omega
  clear hk0
  obtain ⟨D1, hD1⟩ : ∃ D1, dy nn 0 = D1 := ⟨_, rfl⟩
  obtain ⟨D2, hD2⟩ : ∃ D2, D1 * dy 1 (far kk) = D2 := ⟨_, rfl⟩
  rw [hD1] at hS1
  have hS2 : Sz 1048700 D2 := by rw [← hD2]; exact hS1.shift (far kk) (by have := far_le kk; omega)
  have HD1 := Lib.hid hD1
  have HD2 := Lib.hid hD2
  have HS := Lib.hid (And.intro hS1 hS2)
  have HP := Lib.hid (And.intro (hS1.fitp (by omega)) (hS2.fitp (by omega)))
  have HZ := Lib.hid (And.intro hz0 hz1)
  have HG0 := Lib.hid hg
  clear hS1 hS2 hD1 hD2 hz0 hz1 hg h64
  go_enter Tryd.func3, Tryd.ntmps3
  go_wp2_with fail
  refine (awakeD_any w HG0.out).mono ?_
  rintro e W0 ⟨rfl, hb⟩
  have HB := Lib.hid hb
  have HG := Lib.hid (HG0.out.below hb)
  clear hb
  go_wp2_with fail
  refine (pint_v nn _ HZ.out.1 HZ.out.2 HG.out).mono ?_
  rintro e W1 ⟨vHa, rfl, hv, hb⟩
  have HBn := Lib.hid (below_nx HB.out hb)
  have HGn := Lib.hid (HG.out.below hb)
  have Ha := Lib.hid (show PV W1 vHa D1 from by rw [← HD1.out]; exact hv)
  clear HB HG hb
  have HB := HBn
  have HG := HGn
  clear HBn HGn
  clear hv
  go_wp2_with fail
  refine (ptext_v Ha.out HP.out.1 HG.out).mono ?_
  rintro e W2 ⟨rfl, hb⟩
  have HBn := Lib.hid (below_nx HB.out hb)
  have HGn := Lib.hid (HG.out.below hb)
  clear HB HG hb
  have HB := HBn
  have HG := HGn
  clear HBn HGn
  go_wp2_with fail
  refine (rint_v nn _ HZ.out.1 HZ.out.2).mono ?_
  rintro e W3 ⟨vHr, rfl, hv, hb⟩
  have HBn := Lib.hid (below_nx HB.out hb)
  have HGn := Lib.hid (HG.out.below hb)
  have Hr := Lib.hid (show DV W3 vHr D1 from by rw [← HD1.out]; exact hv)
  clear HB HG hb
  have HB := HBn
  have HG := HGn
  clear HBn HGn
  clear hv
  go_wp2_with fail
  refine (rtext_v Hr.out HS.out.1 (by omega)).mono ?_
  rintro e W4 ⟨rfl, hb⟩
  have HBn := Lib.hid (below_nx HB.out hb)
  have HGn := Lib.hid (HG.out.below hb)
  clear HB HG hb
  have HB := HBn
  have HG := HGn
  clear HBn HGn
  go_wp2_with fail
  refine (pint_v nn _ HZ.out.1 HZ.out.2 HG.out).mono ?_
  rintro e W5 ⟨vHc, rfl, hv, hb⟩
  have HBn := Lib.hid (below_nx HB.out hb)
  have HGn := Lib.hid (HG.out.below hb)
  have Hc := Lib.hid (show PV W5 vHc D1 from by rw [← HD1.out]; exact hv)
  clear HB HG hb
  have HB := HBn
  have HG := HGn
  clear HBn HGn
  clear hv
  go_wp2_with fail
  refine (pshift_v kk Hc.out HP.out.1 HG.out).mono ?_
  rintro e W6 ⟨vHd, rfl, hv, hb⟩
  have HBn := Lib.hid (below_nx HB.out hb)
  have HGn := Lib.hid (HG.out.below hb)
  have Hd := Lib.hid (show PV W6 vHd D2 from by rw [← HD2.out]; exact hv)
  clear HB HG hb
  have HB := HBn
  have HG := HGn
  clear HBn HGn
  clear hv
  go_wp2_with fail
  refine (ptext_v Hd.out HP.out.2 HG.out).mono ?_
  rintro e W7 ⟨rfl, hb⟩
  have HBn := Lib.hid (below_nx HB.out hb)
  have HGn := Lib.hid (HG.out.below hb)
  clear HB HG hb
  have HB := HBn
  have HG := HGn
  clear HBn HGn
  go_wp2_with fail
  refine (rint_v nn _ HZ.out.1 HZ.out.2).mono ?_
  rintro e W8 ⟨vHf, rfl, hv, hb⟩
  have HBn := Lib.hid (below_nx HB.out hb)
  have HGn := Lib.hid (HG.out.below hb)
  have Hf := Lib.hid (show DV W8 vHf D1 from by rw [← HD1.out]; exact hv)
  clear HB HG hb
  have HB := HBn
  have HG := HGn
  clear HBn HGn
  clear hv
  go_wp2_with fail
  refine (rshift_v 1048576 HFar.out.2 Hf.out (HS.out.1.fit (by omega))).mono ?_
  rintro e W9 ⟨vHg, rfl, hv, hb⟩
  have HBn := Lib.hid (below_nx HB.out hb)
  have HGn := Lib.hid (HG.out.below hb)
  have Hg := Lib.hid (show DV W9 vHg D2 from by rw [← HD2.out, HFar.out.1]; exact hv)
  clear HB HG hb
  have HB := HBn
  have HG := HGn
  clear HBn HGn
  clear hv
  go_wp2_with fail
  refine (rtext_v Hg.out HS.out.2 (by omega)).mono ?_
  rintro e W10 ⟨rfl, hb⟩
  have HBn := Lib.hid (below_nx HB.out hb)
  have HGn := Lib.hid (HG.out.below hb)
  clear HB HG hb
  have HB := HBn
  have HG := HGn
  clear HBn HGn
  go_wp2_with fail
  refine (awakeD_any _ HG.out).mono ?_
  rintro e W11 ⟨rfl, hb⟩
  have HBn := Lib.hid (below_nx HB.out hb)
  have HGn := Lib.hid (HG.out.below hb)
  clear HB HG hb
  have HB := HBn
  have HG := HGn
  clear HBn HGn
  go_wp2_with fail
  go_ret
  exact ⟨rfl, HB.out⟩

set_option maxRecDepth 100000 in
set_option maxHeartbeats 4000000 in
theorem dints_lo (nn kk : Int) (w : World) (hz0 : -9223372036854775808 ≤ nn) (hz1 : nn ≤ 9223372036854775807) (hg : Glob w) (hk0 : kk < -1048576) :
    Calls Tryd.prog 3 #[.int .i64 nn, .int .i64 kk] w fun e w' => e = .returned (.bool true) ∧ Below w.heap.size w w' := by
  have h64 : (2 : Nat) ^ 64 = 18446744073709551616 := by decide
  have hS1 : Sz 64 (dy nn 0) := Sz.int (by omega)
  have HFar := Lib.hid (show far kk = -1048576 ∧ (-1048576 : Int).natAbs ≤ 1099511627776 by unfold far; rw [if_pos hk0]; omega)
  have ht1 : decide (1048576 < kk) = false := by simp; omega
  have ht2 : decide (kk < -1048576) = true := by simp; omega
  clear hk0
  obtain ⟨D1, hD1⟩ : ∃ D1, dy nn 0 = D1 := ⟨_, rfl⟩
  obtain ⟨D2, hD2⟩ : ∃ D2, D1 * dy 1 (far kk) = D2 := ⟨_, rfl⟩
  rw [hD1] at hS1
  have hS2 : Sz 1048700 D2 := by rw [← hD2]; exact hS1.shift (far kk) (by have := far_le kk; omega)
  have HD1 := Lib.hid hD1
  have HD2 := Lib.hid hD2
  have HS := Lib.hid (And.intro hS1 hS2)
  have HP := Lib.hid (And.intro (hS1.fitp (by omega)) (hS2.fitp (by omega)))
  have HZ := Lib.hid (And.intro hz0 hz1)
  have HG0 := Lib.hid hg
  clear hS1 hS2 hD1 hD2 hz0 hz1 hg h64
  go_enter Tryd.func3, Tryd.ntmps3
  go_wp2_with fail
  refine (awakeD_any w HG0.out).mono ?_
  rintro e W0 ⟨rfl, hb⟩
  have HB := Lib.hid hb
  have HG := Lib.hid (HG0.out.below hb)
  clear hb
  go_wp2_with fail
  refine (pint_v nn _ HZ.out.1 HZ.out.2 HG.out).mono ?_
  rintro e W1 ⟨vHa, rfl, hv, hb⟩
  have HBn := Lib.hid (below_nx HB.out hb)
  have HGn := Lib.hid (HG.out.below hb)
  have Ha := Lib.hid (show PV W1 vHa D1 from by rw [← HD1.out]; exact hv)
  clear HB HG hb
  have HB := HBn
  have HG := HGn
  clear HBn HGn
  clear hv
  go_wp2_with fail
  refine (ptext_v Ha.out HP.out.1 HG.out).mono ?_
  rintro e W2 ⟨rfl, hb⟩
  have HBn := Lib.hid (below_nx HB.out hb)
  have HGn := Lib.hid (HG.out.below hb)
  clear HB HG hb
  have HB := HBn
  have HG := HGn
  clear HBn HGn
  go_wp2_with fail
  refine (rint_v nn _ HZ.out.1 HZ.out.2).mono ?_
  rintro e W3 ⟨vHr, rfl, hv, hb⟩
  have HBn := Lib.hid (below_nx HB.out hb)
  have HGn := Lib.hid (HG.out.below hb)
  have Hr := Lib.hid (show DV W3 vHr D1 from by rw [← HD1.out]; exact hv)
  clear HB HG hb
  have HB := HBn
  have HG := HGn
  clear HBn HGn
  clear hv
  go_wp2_with fail
  refine (rtext_v Hr.out HS.out.1 (by omega)).mono ?_
  rintro e W4 ⟨rfl, hb⟩
  have HBn := Lib.hid (below_nx HB.out hb)
  have HGn := Lib.hid (HG.out.below hb)
  clear HB HG hb
  have HB := HBn
  have HG := HGn
  clear HBn HGn
  go_wp2_with fail
  refine (pint_v nn _ HZ.out.1 HZ.out.2 HG.out).mono ?_
  rintro e W5 ⟨vHc, rfl, hv, hb⟩
  have HBn := Lib.hid (below_nx HB.out hb)
  have HGn := Lib.hid (HG.out.below hb)
  have Hc := Lib.hid (show PV W5 vHc D1 from by rw [← HD1.out]; exact hv)
  clear HB HG hb
  have HB := HBn
  have HG := HGn
  clear HBn HGn
  clear hv
  go_wp2_with fail
  refine (pshift_v kk Hc.out HP.out.1 HG.out).mono ?_
  rintro e W6 ⟨vHd, rfl, hv, hb⟩
  have HBn := Lib.hid (below_nx HB.out hb)
  have HGn := Lib.hid (HG.out.below hb)
  have Hd := Lib.hid (show PV W6 vHd D2 from by rw [← HD2.out]; exact hv)
  clear HB HG hb
  have HB := HBn
  have HG := HGn
  clear HBn HGn
  clear hv
  go_wp2_with fail
  refine (ptext_v Hd.out HP.out.2 HG.out).mono ?_
  rintro e W7 ⟨rfl, hb⟩
  have HBn := Lib.hid (below_nx HB.out hb)
  have HGn := Lib.hid (HG.out.below hb)
  clear HB HG hb
  have HB := HBn
  have HG := HGn
  clear HBn HGn
  go_wp2_with fail
  refine (rint_v nn _ HZ.out.1 HZ.out.2).mono ?_
  rintro e W8 ⟨vHf, rfl, hv, hb⟩
  have HBn := Lib.hid (below_nx HB.out hb)
  have HGn := Lib.hid (HG.out.below hb)
  have Hf := Lib.hid (show DV W8 vHf D1 from by rw [← HD1.out]; exact hv)
  clear HB HG hb
  have HB := HBn
  have HG := HGn
  clear HBn HGn
  clear hv
  go_wp2_with fail
  refine (rshift_v (-1048576) HFar.out.2 Hf.out (HS.out.1.fit (by omega))).mono ?_
  rintro e W9 ⟨vHg, rfl, hv, hb⟩
  have HBn := Lib.hid (below_nx HB.out hb)
  have HGn := Lib.hid (HG.out.below hb)
  have Hg := Lib.hid (show DV W9 vHg D2 from by rw [← HD2.out, HFar.out.1]; exact hv)
  clear HB HG hb
  have HB := HBn
  have HG := HGn
  clear HBn HGn
  clear hv
  go_wp2_with fail
  refine (rtext_v Hg.out HS.out.2 (by omega)).mono ?_
  rintro e W10 ⟨rfl, hb⟩
  have HBn := Lib.hid (below_nx HB.out hb)
  have HGn := Lib.hid (HG.out.below hb)
  clear HB HG hb
  have HB := HBn
  have HG := HGn
  clear HBn HGn
  go_wp2_with fail
  refine (awakeD_any _ HG.out).mono ?_
  rintro e W11 ⟨rfl, hb⟩
  have HBn := Lib.hid (below_nx HB.out hb)
  have HGn := Lib.hid (HG.out.below hb)
  clear HB HG hb
  have HB := HBn
  have HG := HGn
  clear HBn HGn
  go_wp2_with fail
  go_ret
  exact ⟨rfl, HB.out⟩

theorem dyadInts_walk (nn kk : Int) (w : World) (hz0 : -9223372036854775808 ≤ nn) (hz1 : nn ≤ 9223372036854775807) (hg : Glob w) :
    Calls Tryd.prog 3 #[.int .i64 nn, .int .i64 kk] w fun e w' => e = .returned (.bool true) ∧ Below w.heap.size w w' := by
  by_cases h1 : 1048576 < kk
  · exact dints_hi nn kk w hz0 hz1 hg h1
  · by_cases h2 : kk < -1048576
    · exact dints_lo nn kk w hz0 hz1 hg h2
    · exact dints_mid nn kk w hz0 hz1 hg (by omega) (by omega)

end Go.Proofs.YtajcjpbfmpljkaaDoor
set_option linter.unusedVariables false
namespace Go.Proofs.YtajcjpbfmpljkaaDoor
open Go.RowKit

/-- An int's range. -/
def I64 (z : Int) : Prop := -9223372036854775808 ≤ z ∧ z < 9223372036854775808

end Go.Proofs.YtajcjpbfmpljkaaDoor
set_option linter.unusedVariables false
namespace Go.Proofs.YtajcjpbfmpljkaaDoor
open Go.RowKit Go.WideShapes Go.ChangeShapes Go.Deep

/-- Each is a word. -/
def Wds (l : List Nat) : Prop := ∀ b ∈ l, b < 18446744073709551616
theorem Wds.at_ {l : List Nat} (h : Wds l) (i : Nat) (hi : i < l.length) : l[i] < 18446744073709551616 := h _ (List.getElem_mem hi)

section
variable {H : Type} {enc : TypeId × Value → H} {P : Program} {w : World} {base : Nat} {spare : Nat → Bool} {held : Bool}
theorem open_i64 {t : TypeId} {v : Value} {d : DataW H} {p : List MemPlace} {r : Reach} {b0 : Nat} (ht : P.underlying t = some (.int .i64)) (hv : Value.okWide P w r b0 t v) (h : DataW.Trod enc P w base spare held t v d p) : ∃ z : Int, v = .int .i64 z ∧ I64 z := by
  obtain ⟨z, rfl, _, _, hw⟩ := open_int ht hv h
  refine ⟨z, rfl, ?_⟩
  simp [Lit.wf, IntKind.min, IntKind.max, IntKind.signed, IntKind.bits] at hw
  unfold I64; omega
end
end Go.Proofs.YtajcjpbfmpljkaaDoor
