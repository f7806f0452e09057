/-
The document's odd. Conditions: the number has at most 2^24 digits, within 2^40 places.
-/
import Derived.Test.YtbkbeglmfhaleaaGreatDoorZRdF
import Derived.Test.YtbkbeglmfhaleaaGreatDoorZRdU
import Derived.Test.YtbkbeglmfhaleaaGreatDoorZRdH
import Derived.Test.YtbkbeglmfhaleaaGreatDoorIng
import Derived.Maps.AppendAt
import Derived.Deep.CutBlock
import Derived.Test.YtbkbeglmfhaleaaGreatDoorUcf
set_option linter.unusedVariables false
set_option linter.unusedSimpArgs false
set_option linter.unnecessarySimpa false
namespace Go.Proofs.YtbkbeglmfhaleaaGreatDoor
open Go.RowKit
attribute [local go_sem ↓] Go.wp_at_zero Go.wp_at_succ

/-- A list of ints that is being made longer by one number. -/
def ApN (Z : Nat) (L : List Value) (R : Nat → Prop) (w wr : World) (db da : Bool) (vb va : Value) (W : World) : Prop :=
  (da = false → Below wr.heap.size wr W ∧ (db = true → ∃ (g r : Nat), vb = .slice (some ⟨g, 0, none⟩) 1 1 ∧ W.cell? ⟨g, 0, none⟩ = some (.int .i64 (r : Int)) ∧ R r)) ∧
  (da = true → ∃ r : Nat, R r ∧ W.ownsRow Z 3 1 va (L.length + 1) (L ++ [.int .i64 (r : Int)]) ∧ Below w.heap.size w W)
theorem ApN.nxt {Z : Nat} {L : List Value} {R : Nat → Prop} {w wr : World} {db : Bool} {vb va : Value} {W W' : World} (h : ApN Z L R w wr db false vb va W) (hb : Below W.heap.size W W') : ApN Z L R w wr db false vb va W' :=
  ⟨fun _ => ⟨below_nx (h.1 rfl).1 hb, fun e => by
    obtain ⟨g, r, h1, h2, h3⟩ := (h.1 rfl).2 e
    exact ⟨g, r, h1, cell_below h2 hb, h3⟩⟩, fun e => by cases e⟩
theorem ApN.made {Z : Nat} {L : List Value} {R : Nat → Prop} {w wr : World} {vb va : Value} {W : World} {r : Nat} (h : ApN Z L R w wr false false vb va W) (hr : R r) :
    ApN Z L R w wr true false (.slice (some ⟨W.heap.size, 0, none⟩) 1 1) va (W.alloc (.cells #[.int .i64 (r : Int)] 3)) :=
  ⟨fun _ => ⟨below_nx (h.1 rfl).1 below_one, fun _ => ⟨_, r, rfl, (Blk.new W 3 #[.int .i64 (r : Int)]).cell 0, hr⟩⟩, fun e => by cases e⟩
theorem ApN.app {Z : Nat} {L : List Value} {R : Nat → Prop} {w wr : World} {vb va out : Value} {W : World} (h : ApN Z L R w wr true false vb va W) (hout : wr.ownsRow Z 3 1 out L.length L) (hbl : Below w.heap.size w wr) (hZ : w.heap.size ≤ Z) (hZ2 : Z ≤ wr.heap.size) (hq : L.length + 1 ≤ 1099511627776) :
    ∃ g v' w', vb = .slice (some ⟨g, 0, none⟩) 1 1 ∧ (Builtin.append_ #[28, 28] 28 #[out, .slice (some ⟨g, 0, none⟩) 1 1]).run Tryz.prog W = .ok v' w' ∧ ApN Z L R w wr true true vb v' w' := by
  obtain ⟨i0, hi, hz0, hz1, hz2⟩ := info_parts info_i64
  obtain ⟨hb, hx⟩ := h.1 rfl
  obtain ⟨g, r, e1, e2, e3⟩ := hx rfl
  have hO : W.ownsRow Z 3 1 out L.length L := hout.kept (row := none) ⟨hb.os, hb.tape, hb.output, hb.size, fun k hk _ => hb.block k hk⟩ (by cases out.ownBlock <;> simp)
  obtain ⟨v', w', r1, r2, r3, _⟩ := run_append_own W Z 28 28 3 i0 (.int .i64 0) 1 8 Tryz.underlying28 hi hz0 hz1 hz2 rfl (by decide) out L.length L hO ⟨g, 0, none⟩ 1 1 [.int .i64 (r : Int)] rfl
    (by
      intro j u hj
      match j, hj with
      | 0, hj =>
        have : u = .int .i64 (r : Int) := by simpa using hj.symm
        subst this
        exact e2
      | j + 1, hj => simp at hj) (by intro u hu; simp at hu; subst hu; rfl) (by unfold maxLen; omega) (by omega) (by have := hb.size; omega)
  refine ⟨g, v', w', e1, r1, ⟨(fun e => by cases e), fun _ => ⟨r, e3, r2, ?_⟩⟩⟩
  exact (below_nx hbl hb).grown r3 (below_nx hbl hb).size (fun k hk => by have := (hO.lt k hk).1; omega)
theorem odd_facts {x p : Nat} (hx : x < 65536) (hp : 0 < p) : ∃ q r : Nat, (x : Int).tdiv (p : Int) = (q : Int) ∧ (x : Int) / (p : Int) = (q : Int) ∧ (q : Int).tmod 2 = (r : Int) ∧ (q : Int) % 2 = (r : Int) ∧ ((p : Int) == 0) = false ∧ IntKind.i64.wrap (q : Int) = (q : Int) ∧ wrap64 (q : Int) = (q : Int) ∧ x / p % 2 = r := by
  have hq : x / p ≤ x := Nat.div_le_self x p
  have e : (x : Int) / (p : Int) = ((x / p : Nat) : Int) := (Int.natCast_ediv x p).symm
  obtain ⟨q, hqq⟩ : ∃ q, x / p = q := ⟨_, rfl⟩
  rw [hqq] at hq e ⊢
  exact ⟨q, q % 2, by rw [Int.tdiv_eq_ediv_of_nonneg (by omega)]; exact e, e, by rw [Int.tmod_eq_emod_of_nonneg (by omega)]; omega, by omega, by simp; omega, IntWalk.i64_in _ (by omega), by unfold wrap64; omega, rfl⟩
theorem ints_snoc' (l : List Nat) (x : Nat) : ints (l ++ [x]) = ints l ++ [.int .i64 (x : Int)] := by simp [ints]
theorem wr50 {z : Int} (h : z.natAbs ≤ 1125899906842624) : IntKind.i64.wrap z = z ∧ wrap64 z = z := ⟨IntWalk.i64_in _ (by omega), by unfold wrap64; omega⟩
theorem two_digs {b : List Nat} (h : Two b) : Digs 65536 b := fun x hx => by have := h x hx; omega

set_option maxRecDepth 100000 in
set_option maxHeartbeats 4000000 in
theorem rodd_any (neg : Bool) (A : Option Addr) (n c : Nat) (l : List Nat) (E : Int) (w : World) (h : Rd w A n c l) (hn : n ≤ 16777216) (hE : E.natAbs ≤ 1099511627776) :
    Calls Tryz.prog 44 #[.agg #[.bool neg, .slice A n c, .int .i64 E]] w fun e w' => ∃ (B : Option Addr) (m d9 : Nat) (b : List Nat) (E' : Int), e = .returned (.tuple #[.slice B m d9, .int .i64 E']) ∧ Rd w' B m d9 b ∧ Two b ∧ (b = [] ∨ (b.head? = some 1 ∧ b.getLast? = some 1)) ∧ dy (hv b : Int) E' = dy (ofd 65536 l : Int) (16 * E) ∧ E'.natAbs ≤ 17592186044416 + 268435456 ∧ m ≤ 268435456 ∧ Below w.heap.size w w' := by
  have H := Lib.hid h
  have hnl := h.1
  have HX0 := Lib.hid (Blk.new w 30 #[.bool neg, .slice A n c, .int .i64 E])
  have HB0 := Lib.hid ((Below.refl w.heap.size w).alloc (Nat.le_refl _) (.cells #[.bool neg, .slice A n c, .int .i64 E] 30))
  have HN := Lib.hid (And.intro hn hE)
  have HNl := Lib.hid hnl
  have hw1 : IntKind.i64.wrap ((n : Int) - 1) = (n : Int) - 1 := iwrap_in (by omega)
  have hw2 : wrap64 ((n : Int) - 1) = (n : Int) - 1 := wrap64_in (by omega)
  clear h hn hE hnl
  go_enter Tryz.func44, Tryz.ntmps44
  obtain ⟨a0, a1, a2⟩ := cells3 HX0.out
  go_wp2_with fail
  clear a0 a1 a2
  obtain ⟨g0, hg0⟩ : ∃ g0, w.heap.size = g0 := ⟨_, rfl⟩
  rw [hg0] at HX0
  rw [hg0]
  generalize (w.alloc (.cells #[.bool neg, .slice A n c, .int .i64 E] 30)) = w0 at *
  have HGz := Lib.hid hg0
  clear hg0
  go_loopw [4, 5] (fun sb i wr => ∃ (m : Nat) (bs : List Nat), m ≤ n ∧ i = .int .i64 ((m : Int) - 1) ∧ wr.ownsRow w0.heap.size 3 1 sb (ints bs).length (ints bs) ∧ Hid (Two bs ∧ bs.length = 16 * (n - m) ∧ hv bs = ofd 65536 (l.drop m)) ∧ Below w0.heap.size w0 wr) (fun _ i _ => (intOf i + 1).toNat)
  case atStart => exact ⟨n, [], Nat.le_refl _, rfl, World.ownsRow_nil _ _ _ _, Lib.hid ⟨Two.nil, by simp, by rw [HNl.out, List.drop_length]; rfl⟩, Below.refl _ _⟩
  case round =>
    obtain ⟨m, bs, hm, rfl, hO, HS, hB⟩ := hrel
    obtain ⟨wo, rfl⟩ : ∃ wo : World, wo = wr := ⟨_, rfl⟩
    have HO := Lib.hid hO
    have HB := Lib.hid hB
    clear hO hB
    by_cases hlt : 0 < m
    · obtain ⟨q, rfl⟩ : ∃ q, m = q + 1 := ⟨m - 1, by omega⟩
      have hq0 : (((q + 1 : Nat) : Int) - 1) = (q : Int) := by omega
      rw [hq0]
      have ht : decide (0 ≤ (q : Int)) = true := by simp
      have HM := Lib.hid hm
      clear hq0 hm hlt
      go_wp2_with fail
      go_loopw [4, 6] (fun sb i wr => ∃ (k : Nat) (bs : List Nat), k ≤ 16 ∧ i = .int .i64 ((k : Int) - 1) ∧ wr.ownsRow w0.heap.size 3 1 sb (ints bs).length (ints bs) ∧ Hid (Half2 l q k bs) ∧ Below w0.heap.size w0 wr) (fun _ i _ => (intOf i + 1).toNat)
      case atStart => exact ⟨16, bs, Nat.le_refl _, rfl, HO.out, Lib.hid (Half2.begin HS.out.1 (by rw [HS.out.2.1, HNl.out]) HS.out.2.2 H.out.2.2.2.1), HB.out⟩
      case round =>
        clear HO HB HS
        obtain ⟨k1, bs, hk, rfl, hO, HS, hB⟩ := hrel
        have HOw := Lib.hid hO
        have HBl := Lib.hid hB
        have HXr := Lib.hid (HX0.out.below hB HX0.out.lt)
        clear hO hB
        by_cases hlt2 : 0 < k1
        · obtain ⟨k, rfl⟩ : ∃ k, k1 = k + 1 := ⟨k1 - 1, by omega⟩
          have hk0 : (((k + 1 : Nat) : Int) - 1) = (k : Int) := by omega
          rw [hk0]
          have ht2 : decide (0 ≤ (k : Int)) = true := by simp
          have hql : q < l.length := by have := HM.out; rw [← HNl.out]; omega
          obtain ⟨b0, y0, rfl, _, hcd⟩ := H.out.2.2.1.at_ (ints_get l q hql)
          have HCd := Lib.hid (cell_below hcd (below_nx HB0.out HBl.out))
          have hx6 := H.out.2.2.2.1.get q hql
          have hStep := HS.out.step (by omega)
          rw [show l.getD q 0 = l[q] by simp [List.getD, hql]] at hStep
          obtain ⟨x, hxx⟩ : ∃ x, l[q] = x := ⟨_, rfl⟩
          rw [hxx] at hx6 hStep HCd
          obtain ⟨p, hp⟩ : ∃ p, 2 ^ k = p := ⟨_, rfl⟩
          have HPw := Lib.hid (fun W => power_any k W (by omega))
          rw [hp] at HPw hStep
          obtain ⟨qq, rr, j1, j2, j3, j4, j5, j6, j7, j8⟩ := odd_facts hx6 (show 0 < p by rw [← hp]; exact Nat.two_pow_pos k)
          rw [j8] at hStep
          have fp : ¬ p = 0 := by have := Nat.two_pow_pos k; omega
          have HStep := Lib.hid hStep
          have HLe := Lib.hid (show (ints bs).length + 1 ≤ 1099511627776 by have := HS.out.2.1; have := HN.out; rw [← HNl.out] at *; simp [ints]; omega)
          have bq1 : q < n := by have := HM.out; omega
          have bq2 : (q : Int) < (n : Int) := by omega
          have HK := Lib.hid hk
          have HWk := Lib.hid (show wrap64 ((k : Int) - 1) = (k : Int) - 1 from wrap64_in (by omega))
          clear hcd hxx hp hx6 hStep j8 hql hk0 hk hlt2
          go_wp2_with fail
          refine wp_region_inv [20, 21, 22, 23, 24, 25, 26, 27, 28, 29, 30, 31, 4] (fun d s W => (d 0 = true → s 20 = u4) ∧ (d 1 = true → s 21 = .pointer (some ⟨g0, 1, none⟩)) ∧ (d 2 = true → s 22 = .slice (some ⟨b0, y0, none⟩) n c) ∧ (d 3 = true → s 23 = .int .i64 (q : Int)) ∧ (d 4 = true → s 24 = .pointer (some ⟨b0, y0 + q, none⟩)) ∧ (d 5 = true → s 25 = .int .i64 (x : Int)) ∧ (d 6 = true → s 26 = .int .i64 (k : Int)) ∧ (d 7 = true → s 27 = .int .i64 (p : Int)) ∧ (d 8 = true → s 28 = .int .i64 (qq : Int)) ∧ (d 9 = true → s 29 = .int .i64 (rr : Int)) ∧ (d 12 = true → s 4 = s 31) ∧ (d 12 = true → d 11 = true) ∧ (d 12 = true → d 0 = true) ∧ (d 12 = false → s 4 = u4) ∧ (d 2 = true → d 1 = true) ∧ (d 4 = true → d 1 = true ∧ d 2 = true ∧ d 3 = true) ∧ (d 5 = true → d 1 = true ∧ d 2 = true ∧ d 3 = true ∧ d 4 = true) ∧ (d 7 = true → d 6 = true) ∧ (d 8 = true → d 1 = true ∧ d 2 = true ∧ d 3 = true ∧ d 4 = true ∧ d 5 = true ∧ d 6 = true ∧ d 7 = true) ∧ (d 9 = true → d 1 = true ∧ d 2 = true ∧ d 3 = true ∧ d 4 = true ∧ d 5 = true ∧ d 6 = true ∧ d 7 = true ∧ d 8 = true) ∧ (d 10 = true → d 1 = true ∧ d 2 = true ∧ d 3 = true ∧ d 4 = true ∧ d 5 = true ∧ d 6 = true ∧ d 7 = true ∧ d 8 = true ∧ d 9 = true) ∧ (d 11 = true → d 0 = true ∧ d 1 = true ∧ d 2 = true ∧ d 3 = true ∧ d 4 = true ∧ d 5 = true ∧ d 6 = true ∧ d 7 = true ∧ d 8 = true ∧ d 9 = true ∧ d 10 = true) ∧ ApN w0.heap.size (ints bs) (fun r => r = rr) w0 wr (d 10) (d 11) (s 30) (s 31) W)
            rfl (by kernel_rfl) ?_ ?_ ?_
          · exact ⟨by simp, by simp, by simp, by simp, by simp, by simp, by simp, by simp, by simp, by simp, by simp, by simp, by simp, fun _ => by simp, by simp, by simp, by simp, by simp, by simp, by simp, by simp, by simp, ⟨fun _ => ⟨(Below.refl _ _).drew, fun e => by simp at e⟩, fun e => by simp at e⟩⟩
          · refine ⟨?_, ?_, ?_, ?_, ?_, ?_, ?_, ?_, ?_, ?_, ?_, ?_, ?_, trivial⟩
            all_goals
              intro d s W hJ hfr hd hdep
              simp only [List.mem_cons, forall_eq_or_imp, List.not_mem_nil, false_implies, implies_true, and_true, Region.binds] at hdep
              have f1 := hfr 1 (by decide)
              have f5 := hfr 5 (by decide)
              have f6 := hfr 6 (by decide)
              simp at f1 f5 f6 hdep
              obtain ⟨h0, h1, h2, h3, h4, h5, h6, h7, h8, h9, h12, x0, x1, x2, x3, x4, x5, x6, x7, x8, x9, x10, hT⟩ := hJ
            · have hl : d 11 = false := by
                cases h : d 11
                · rfl
                · have := x10 h; simp [hd] at this
              have hl' := hl
              rw [hl] at hT
              unfold OpSteps
              have e4 : d 12 = false := by
                cases h : d 12
                · rfl
                · have := x1 h; simp [hd] at this
              have f4 := x2 e4
              simp [go_sem, evS, f4]
              exact ⟨fun _ => by simp [sput], fun h => by simpa [sput] using h1 (by simpa [did] using h), fun h => by simpa [sput] using h2 (by simpa [did] using h), fun h => by simpa [sput] using h3 (by simpa [did] using h), fun h => by simpa [sput] using h4 (by simpa [did] using h), fun h => by simpa [sput] using h5 (by simpa [did] using h), fun h => by simpa [sput] using h6 (by simpa [did] using h), fun h => by simpa [sput] using h7 (by simpa [did] using h), fun h => by simpa [sput] using h8 (by simpa [did] using h), fun h => by simpa [sput] using h9 (by simpa [did] using h), fun h => by simpa [sput] using h12 (by simpa [did] using h), by simpa [sput, did] using x0, fun h => by have := x1 (by simpa [did] using h); simp [did, this], fun h => by simpa [sput] using x2 (by simpa [did] using h), fun h => by have := x3 (by simpa [did] using h); simp [did, this], fun h => by have := x4 (by simpa [did] using h); simp [did, this], fun h => by have := x5 (by simpa [did] using h); simp [did, this], fun h => by have := x6 (by simpa [did] using h); simp [did, this], fun h => by have := x7 (by simpa [did] using h); simp [did, this], fun h => by have := x8 (by simpa [did] using h); simp [did, this], fun h => by have := x9 (by simpa [did] using h); simp [did, this], fun h => by have := x10 (by simpa [did] using h); simp [did, this], by simpa [did, sput, hl] using hT⟩
            · have hl : d 11 = false := by
                cases h : d 11
                · rfl
                · have := x10 h; simp [hd] at this
              have hl' := hl
              rw [hl] at hT
              unfold OpSteps
              simp [go_sem, evS, f1]
              exact ⟨fun h => by simpa [sput] using h0 (by simpa [did] using h), fun _ => by simp [sput], fun h => by simpa [sput] using h2 (by simpa [did] using h), fun h => by simpa [sput] using h3 (by simpa [did] using h), fun h => by simpa [sput] using h4 (by simpa [did] using h), fun h => by simpa [sput] using h5 (by simpa [did] using h), fun h => by simpa [sput] using h6 (by simpa [did] using h), fun h => by simpa [sput] using h7 (by simpa [did] using h), fun h => by simpa [sput] using h8 (by simpa [did] using h), fun h => by simpa [sput] using h9 (by simpa [did] using h), fun h => by simpa [sput] using h12 (by simpa [did] using h), by simpa [sput, did] using x0, fun h => by have := x1 (by simpa [did] using h); simp [did, this], fun h => by simpa [sput] using x2 (by simpa [did] using h), fun h => by have := x3 (by simpa [did] using h); simp [did, this], fun h => by have := x4 (by simpa [did] using h); simp [did, this], fun h => by have := x5 (by simpa [did] using h); simp [did, this], fun h => by have := x6 (by simpa [did] using h); simp [did, this], fun h => by have := x7 (by simpa [did] using h); simp [did, this], fun h => by have := x8 (by simpa [did] using h); simp [did, this], fun h => by have := x9 (by simpa [did] using h); simp [did, this], fun h => by have := x10 (by simpa [did] using h); simp [did, this], by simpa [did, sput, hl] using hT⟩
            · have hl : d 11 = false := by
                cases h : d 11
                · rfl
                · have := x10 h; simp [hd] at this
              have hl' := hl
              rw [hl] at hT
              have g1 := h1 (by simp [hdep])
              unfold OpSteps
              obtain ⟨p0, p1, p2⟩ := cells3 (HXr.out.below (hT.1 rfl).1 HXr.out.lt)
              simp [go_sem, evS, g1, p0, p1, p2]
              exact ⟨fun h => by simpa [sput] using h0 (by simpa [did] using h), fun h => by simpa [sput] using h1 (by simpa [did] using h), fun _ => by simp [sput], fun h => by simpa [sput] using h3 (by simpa [did] using h), fun h => by simpa [sput] using h4 (by simpa [did] using h), fun h => by simpa [sput] using h5 (by simpa [did] using h), fun h => by simpa [sput] using h6 (by simpa [did] using h), fun h => by simpa [sput] using h7 (by simpa [did] using h), fun h => by simpa [sput] using h8 (by simpa [did] using h), fun h => by simpa [sput] using h9 (by simpa [did] using h), fun h => by simpa [sput] using h12 (by simpa [did] using h), by simpa [sput, did] using x0, fun h => by have := x1 (by simpa [did] using h); simp [did, this], fun h => by simpa [sput] using x2 (by simpa [did] using h), fun _ => by simp [did, hdep], fun h => by have := x4 (by simpa [did] using h); simp [did, this], fun h => by have := x5 (by simpa [did] using h); simp [did, this], fun h => by have := x6 (by simpa [did] using h); simp [did, this], fun h => by have := x7 (by simpa [did] using h); simp [did, this], fun h => by have := x8 (by simpa [did] using h); simp [did, this], fun h => by have := x9 (by simpa [did] using h); simp [did, this], fun h => by have := x10 (by simpa [did] using h); simp [did, this], by simpa [did, sput, hl] using hT⟩
            · have hl : d 11 = false := by
                cases h : d 11
                · rfl
                · have := x10 h; simp [hd] at this
              have hl' := hl
              rw [hl] at hT
              unfold OpSteps
              simp [go_sem, evS, f5]
              exact ⟨fun h => by simpa [sput] using h0 (by simpa [did] using h), fun h => by simpa [sput] using h1 (by simpa [did] using h), fun h => by simpa [sput] using h2 (by simpa [did] using h), fun _ => by simp [sput], fun h => by simpa [sput] using h4 (by simpa [did] using h), fun h => by simpa [sput] using h5 (by simpa [did] using h), fun h => by simpa [sput] using h6 (by simpa [did] using h), fun h => by simpa [sput] using h7 (by simpa [did] using h), fun h => by simpa [sput] using h8 (by simpa [did] using h), fun h => by simpa [sput] using h9 (by simpa [did] using h), fun h => by simpa [sput] using h12 (by simpa [did] using h), by simpa [sput, did] using x0, fun h => by have := x1 (by simpa [did] using h); simp [did, this], fun h => by simpa [sput] using x2 (by simpa [did] using h), fun h => by have := x3 (by simpa [did] using h); simp [did, this], fun h => by have := x4 (by simpa [did] using h); simp [did, this], fun h => by have := x5 (by simpa [did] using h); simp [did, this], fun h => by have := x6 (by simpa [did] using h); simp [did, this], fun h => by have := x7 (by simpa [did] using h); simp [did, this], fun h => by have := x8 (by simpa [did] using h); simp [did, this], fun h => by have := x9 (by simpa [did] using h); simp [did, this], fun h => by have := x10 (by simpa [did] using h); simp [did, this], by simpa [did, sput, hl] using hT⟩
            · have hl : d 11 = false := by
                cases h : d 11
                · rfl
                · have := x10 h; simp [hd] at this
              have hl' := hl
              rw [hl] at hT
              have g2 := h2 (by simp [hdep])
              have g3 := h3 (by simp [hdep])
              unfold OpSteps
              simp [go_sem, evS, g2, g3, bq1, bq2]
              exact ⟨fun h => by simpa [sput] using h0 (by simpa [did] using h), fun h => by simpa [sput] using h1 (by simpa [did] using h), fun h => by simpa [sput] using h2 (by simpa [did] using h), fun h => by simpa [sput] using h3 (by simpa [did] using h), fun _ => by simp [sput], fun h => by simpa [sput] using h5 (by simpa [did] using h), fun h => by simpa [sput] using h6 (by simpa [did] using h), fun h => by simpa [sput] using h7 (by simpa [did] using h), fun h => by simpa [sput] using h8 (by simpa [did] using h), fun h => by simpa [sput] using h9 (by simpa [did] using h), fun h => by simpa [sput] using h12 (by simpa [did] using h), by simpa [sput, did] using x0, fun h => by have := x1 (by simpa [did] using h); simp [did, this], fun h => by simpa [sput] using x2 (by simpa [did] using h), fun h => by have := x3 (by simpa [did] using h); simp [did, this], fun _ => by have y2 := x3 (by simp [hdep]); simp [did, hdep, y2], fun h => by have := x5 (by simpa [did] using h); simp [did, this], fun h => by have := x6 (by simpa [did] using h); simp [did, this], fun h => by have := x7 (by simpa [did] using h); simp [did, this], fun h => by have := x8 (by simpa [did] using h); simp [did, this], fun h => by have := x9 (by simpa [did] using h); simp [did, this], fun h => by have := x10 (by simpa [did] using h); simp [did, this], by simpa [did, sput, hl] using hT⟩
            · have hl : d 11 = false := by
                cases h : d 11
                · rfl
                · have := x10 h; simp [hd] at this
              have hl' := hl
              rw [hl] at hT
              have g4 := h4 (by simp [hdep])
              unfold OpSteps
              have pc := cell_below HCd.out (hT.1 rfl).1
              simp [go_sem, evS, g4, pc]
              exact ⟨fun h => by simpa [sput] using h0 (by simpa [did] using h), fun h => by simpa [sput] using h1 (by simpa [did] using h), fun h => by simpa [sput] using h2 (by simpa [did] using h), fun h => by simpa [sput] using h3 (by simpa [did] using h), fun h => by simpa [sput] using h4 (by simpa [did] using h), fun _ => by simp [sput], fun h => by simpa [sput] using h6 (by simpa [did] using h), fun h => by simpa [sput] using h7 (by simpa [did] using h), fun h => by simpa [sput] using h8 (by simpa [did] using h), fun h => by simpa [sput] using h9 (by simpa [did] using h), fun h => by simpa [sput] using h12 (by simpa [did] using h), by simpa [sput, did] using x0, fun h => by have := x1 (by simpa [did] using h); simp [did, this], fun h => by simpa [sput] using x2 (by simpa [did] using h), fun h => by have := x3 (by simpa [did] using h); simp [did, this], fun h => by have := x4 (by simpa [did] using h); simp [did, this], fun _ => by have y4 := x4 (by simp [hdep]); simp [did, hdep, y4], fun h => by have := x6 (by simpa [did] using h); simp [did, this], fun h => by have := x7 (by simpa [did] using h); simp [did, this], fun h => by have := x8 (by simpa [did] using h); simp [did, this], fun h => by have := x9 (by simpa [did] using h); simp [did, this], fun h => by have := x10 (by simpa [did] using h); simp [did, this], by simpa [did, sput, hl] using hT⟩
            · have hl : d 11 = false := by
                cases h : d 11
                · rfl
                · have := x10 h; simp [hd] at this
              have hl' := hl
              rw [hl] at hT
              unfold OpSteps
              simp [go_sem, evS, f6]
              exact ⟨fun h => by simpa [sput] using h0 (by simpa [did] using h), fun h => by simpa [sput] using h1 (by simpa [did] using h), fun h => by simpa [sput] using h2 (by simpa [did] using h), fun h => by simpa [sput] using h3 (by simpa [did] using h), fun h => by simpa [sput] using h4 (by simpa [did] using h), fun h => by simpa [sput] using h5 (by simpa [did] using h), fun _ => by simp [sput], fun h => by simpa [sput] using h7 (by simpa [did] using h), fun h => by simpa [sput] using h8 (by simpa [did] using h), fun h => by simpa [sput] using h9 (by simpa [did] using h), fun h => by simpa [sput] using h12 (by simpa [did] using h), by simpa [sput, did] using x0, fun h => by have := x1 (by simpa [did] using h); simp [did, this], fun h => by simpa [sput] using x2 (by simpa [did] using h), fun h => by have := x3 (by simpa [did] using h); simp [did, this], fun h => by have := x4 (by simpa [did] using h); simp [did, this], fun h => by have := x5 (by simpa [did] using h); simp [did, this], fun h => by have := x6 (by simpa [did] using h); simp [did, this], fun h => by have := x7 (by simpa [did] using h); simp [did, this], fun h => by have := x8 (by simpa [did] using h); simp [did, this], fun h => by have := x9 (by simpa [did] using h); simp [did, this], fun h => by have := x10 (by simpa [did] using h); simp [did, this], by simpa [did, sput, hl] using hT⟩
            · have hl : d 11 = false := by
                cases h : d 11
                · rfl
                · have := x10 h; simp [hd] at this
              have hl' := hl
              rw [hl] at hT
              have g6 := h6 (by simp [hdep])
              unfold OpSteps
              simp [go_sem, evS, g6]
              refine (HPw.out W).mono ?_
              rintro e W' ⟨rfl, rfl⟩
              refine ⟨_, rfl, ?_⟩
              exact ⟨fun h => by simpa [sput] using h0 (by simpa [did] using h), fun h => by simpa [sput] using h1 (by simpa [did] using h), fun h => by simpa [sput] using h2 (by simpa [did] using h), fun h => by simpa [sput] using h3 (by simpa [did] using h), fun h => by simpa [sput] using h4 (by simpa [did] using h), fun h => by simpa [sput] using h5 (by simpa [did] using h), fun h => by simpa [sput] using h6 (by simpa [did] using h), fun _ => by simp [sput], fun h => by simpa [sput] using h8 (by simpa [did] using h), fun h => by simpa [sput] using h9 (by simpa [did] using h), fun h => by simpa [sput] using h12 (by simpa [did] using h), by simpa [sput, did] using x0, fun h => by have := x1 (by simpa [did] using h); simp [did, this], fun h => by simpa [sput] using x2 (by simpa [did] using h), fun h => by have := x3 (by simpa [did] using h); simp [did, this], fun h => by have := x4 (by simpa [did] using h); simp [did, this], fun h => by have := x5 (by simpa [did] using h); simp [did, this], fun _ => by simp [did, hdep], fun h => by have := x7 (by simpa [did] using h); simp [did, this], fun h => by have := x8 (by simpa [did] using h); simp [did, this], fun h => by have := x9 (by simpa [did] using h); simp [did, this], fun h => by have := x10 (by simpa [did] using h); simp [did, this], by simpa [did, sput, hl] using hT⟩
            · have hl : d 11 = false := by
                cases h : d 11
                · rfl
                · have := x10 h; simp [hd] at this
              have hl' := hl
              rw [hl] at hT
              have g5 := h5 (by simp [hdep])
              have g7 := h7 (by simp [hdep])
              unfold OpSteps
              simp [go_sem, evS, g5, g7, j1, j2, j5, j6, j7, fp]
              exact ⟨fun h => by simpa [sput] using h0 (by simpa [did] using h), fun h => by simpa [sput] using h1 (by simpa [did] using h), fun h => by simpa [sput] using h2 (by simpa [did] using h), fun h => by simpa [sput] using h3 (by simpa [did] using h), fun h => by simpa [sput] using h4 (by simpa [did] using h), fun h => by simpa [sput] using h5 (by simpa [did] using h), fun h => by simpa [sput] using h6 (by simpa [did] using h), fun h => by simpa [sput] using h7 (by simpa [did] using h), fun _ => by simp [sput, j6], fun h => by simpa [sput] using h9 (by simpa [did] using h), fun h => by simpa [sput] using h12 (by simpa [did] using h), by simpa [sput, did] using x0, fun h => by have := x1 (by simpa [did] using h); simp [did, this], fun h => by simpa [sput] using x2 (by simpa [did] using h), fun h => by have := x3 (by simpa [did] using h); simp [did, this], fun h => by have := x4 (by simpa [did] using h); simp [did, this], fun h => by have := x5 (by simpa [did] using h); simp [did, this], fun h => by have := x6 (by simpa [did] using h); simp [did, this], fun _ => by have y5 := x5 (by simp [hdep]); have y7 := x6 (by simp [hdep]); simp [did, hdep, y5, y7], fun h => by have := x8 (by simpa [did] using h); simp [did, this], fun h => by have := x9 (by simpa [did] using h); simp [did, this], fun h => by have := x10 (by simpa [did] using h); simp [did, this], by simpa [did, sput, hl] using hT⟩
            · have hl : d 11 = false := by
                cases h : d 11
                · rfl
                · have := x10 h; simp [hd] at this
              have hl' := hl
              rw [hl] at hT
              have g8 := h8 (by simp [hdep])
              unfold OpSteps
              simp [go_sem, evS, g8, j3, j4]
              exact ⟨fun h => by simpa [sput] using h0 (by simpa [did] using h), fun h => by simpa [sput] using h1 (by simpa [did] using h), fun h => by simpa [sput] using h2 (by simpa [did] using h), fun h => by simpa [sput] using h3 (by simpa [did] using h), fun h => by simpa [sput] using h4 (by simpa [did] using h), fun h => by simpa [sput] using h5 (by simpa [did] using h), fun h => by simpa [sput] using h6 (by simpa [did] using h), fun h => by simpa [sput] using h7 (by simpa [did] using h), fun h => by simpa [sput] using h8 (by simpa [did] using h), fun _ => by simp [sput], fun h => by simpa [sput] using h12 (by simpa [did] using h), by simpa [sput, did] using x0, fun h => by have := x1 (by simpa [did] using h); simp [did, this], fun h => by simpa [sput] using x2 (by simpa [did] using h), fun h => by have := x3 (by simpa [did] using h); simp [did, this], fun h => by have := x4 (by simpa [did] using h); simp [did, this], fun h => by have := x5 (by simpa [did] using h); simp [did, this], fun h => by have := x6 (by simpa [did] using h); simp [did, this], fun h => by have := x7 (by simpa [did] using h); simp [did, this], fun _ => by have y8 := x7 (by simp [hdep]); simp [did, hdep, y8], fun h => by have := x9 (by simpa [did] using h); simp [did, this], fun h => by have := x10 (by simpa [did] using h); simp [did, this], by simpa [did, sput, hl] using hT⟩
            · have hl : d 11 = false := by
                cases h : d 11
                · rfl
                · have := x10 h; simp [hd] at this
              have hl' := hl
              rw [hl] at hT
              have g9 := h9 (by simp [hdep])
              unfold OpSteps
              simp [go_sem, evS, g9]
              exact ⟨fun h => by simpa [sput] using h0 (by simpa [did] using h), fun h => by simpa [sput] using h1 (by simpa [did] using h), fun h => by simpa [sput] using h2 (by simpa [did] using h), fun h => by simpa [sput] using h3 (by simpa [did] using h), fun h => by simpa [sput] using h4 (by simpa [did] using h), fun h => by simpa [sput] using h5 (by simpa [did] using h), fun h => by simpa [sput] using h6 (by simpa [did] using h), fun h => by simpa [sput] using h7 (by simpa [did] using h), fun h => by simpa [sput] using h8 (by simpa [did] using h), fun h => by simpa [sput] using h9 (by simpa [did] using h), fun h => by simpa [sput] using h12 (by simpa [did] using h), by simpa [sput, did] using x0, fun h => by have := x1 (by simpa [did] using h); simp [did, this], fun h => by simpa [sput] using x2 (by simpa [did] using h), fun h => by have := x3 (by simpa [did] using h); simp [did, this], fun h => by have := x4 (by simpa [did] using h); simp [did, this], fun h => by have := x5 (by simpa [did] using h); simp [did, this], fun h => by have := x6 (by simpa [did] using h); simp [did, this], fun h => by have := x7 (by simpa [did] using h); simp [did, this], fun h => by have := x8 (by simpa [did] using h); simp [did, this], fun _ => by have y9 := x8 (by simp [hdep]); simp [did, hdep, y9], fun h => by have := x10 (by simpa [did] using h); simp [did, this], by rw [hd] at hT; simpa [did, sput, hl] using hT.made rfl⟩
            · have g0 := h0 (by simp [hdep])
              have hd10 : d 10 = true := by simp [hdep]
              rw [hd10, hd] at hT
              obtain ⟨g, v', w', ga, gb, gc⟩ := hT.app HOw.out HBl.out (Nat.le_refl _) HBl.out.size HLe.out
              refine opSteps_append _ _ _ rfl (by simp only [evS]; exact g0) (by simp only [evS]; exact ga) gb ?_
              exact ⟨fun h => by simpa [sput] using h0 (by simpa [did] using h), fun h => by simpa [sput] using h1 (by simpa [did] using h), fun h => by simpa [sput] using h2 (by simpa [did] using h), fun h => by simpa [sput] using h3 (by simpa [did] using h), fun h => by simpa [sput] using h4 (by simpa [did] using h), fun h => by simpa [sput] using h5 (by simpa [did] using h), fun h => by simpa [sput] using h6 (by simpa [did] using h), fun h => by simpa [sput] using h7 (by simpa [did] using h), fun h => by simpa [sput] using h8 (by simpa [did] using h), fun h => by simpa [sput] using h9 (by simpa [did] using h), fun h => by have := x0 (by simpa [did] using h); simp [hd] at this, fun _ => by simp [did], fun h => by have := x1 (by simpa [did] using h); simp [did, this], fun h => by simpa [sput] using x2 (by simpa [did] using h), fun h => by have := x3 (by simpa [did] using h); simp [did, this], fun h => by have := x4 (by simpa [did] using h); simp [did, this], fun h => by have := x5 (by simpa [did] using h); simp [did, this], fun h => by have := x6 (by simpa [did] using h); simp [did, this], fun h => by have := x7 (by simpa [did] using h); simp [did, this], fun h => by have := x8 (by simpa [did] using h); simp [did, this], fun h => by have := x9 (by simpa [did] using h); simp [did, this], fun _ => by have y10 := x9 (by simp [hdep]); simp [did, hdep, y10], by simpa [did, sput, hd10, ga] using gc⟩
            · unfold OpSteps
              simp [go_sem, evS]
              exact ⟨fun h => by simpa [sput] using h0 (by simpa [did] using h), fun h => by simpa [sput] using h1 (by simpa [did] using h), fun h => by simpa [sput] using h2 (by simpa [did] using h), fun h => by simpa [sput] using h3 (by simpa [did] using h), fun h => by simpa [sput] using h4 (by simpa [did] using h), fun h => by simpa [sput] using h5 (by simpa [did] using h), fun h => by simpa [sput] using h6 (by simpa [did] using h), fun h => by simpa [sput] using h7 (by simpa [did] using h), fun h => by simpa [sput] using h8 (by simpa [did] using h), fun h => by simpa [sput] using h9 (by simpa [did] using h), fun _ => by simp [sput], fun _ => by simp [did, hdep], fun _ => by first | simp [did, hdep] | (have := x10 (by simp [hdep]); simp [did, this]), fun h => by simp [did] at h, fun h => by have := x3 (by simpa [did] using h); simp [did, this], fun h => by have := x4 (by simpa [did] using h); simp [did, this], fun h => by have := x5 (by simpa [did] using h); simp [did, this], fun h => by have := x6 (by simpa [did] using h); simp [did, this], fun h => by have := x7 (by simpa [did] using h); simp [did, this], fun h => by have := x8 (by simpa [did] using h); simp [did, this], fun h => by have := x9 (by simpa [did] using h); simp [did, this], fun h => by have := x10 (by simpa [did] using h); simp [did, this], by simpa [did, sput] using hT⟩
          intro d s W hJ hd
          obtain ⟨h0, h1, h2, h3, h4, h5, h6, h7, h8, h9, h12, x0, x1, x2, x3, x4, x5, x6, x7, x8, x9, x10, hT⟩ := hJ
          have hs4 : s 4 = s 31 := h12 (hd 12 (by decide))
          have hA := hT.2 (hd 11 (by decide))
          clear h0 h1 h2 h3 h4 h5 h6 h7 h8 h9 h12 x0 x1 x2 x3 x4 x5 x6 x7 x8 x9 x10 hT hd
          obtain ⟨r9, hr9, hown, hbl⟩ := hA
          rw [hr9] at hown
          clear hr9
          have HOw2 := Lib.hid hown
          have HBl2 := Lib.hid hbl
          clear hown hbl
          simp [setAll, hs4]
          clear hs4
          generalize s 20 = s20
          generalize s 21 = s21
          generalize s 22 = s22
          generalize s 23 = s23
          generalize s 24 = s24
          generalize s 25 = s25
          generalize s 26 = s26
          generalize s 27 = s27
          generalize s 28 = s28
          generalize s 29 = s29
          generalize s 30 = s30
          generalize s 31 = s31 at *
          go_wp2_with fail
          go_roundw
          case rel => exact ⟨k, bs ++ [rr], by have := HK.out; omega, by rw [HWk.out], by rw [ints_snoc', List.length_append]; exact HOw2.out, HStep, HBl2.out⟩
          case measure => rw [HWk.out]; simp [intOf] <;> omega
        · obtain rfl : k1 = 0 := by omega
          have ht2 : decide (0 ≤ ((0 : Nat) : Int) - 1) = false := by decide
          have HNx := Lib.hid (HS.out.next (by have := HM.out; rw [← HNl.out]; omega))
          have HWq := Lib.hid (show wrap64 ((q : Int) - 1) = (q : Int) - 1 from wrap64_in (by have := HM.out; have := HN.out; omega))
          clear hlt2 hk
          go_wp2_with fail
          go_roundw
          case rel => exact ⟨q, bs, by have := HM.out; omega, by rw [HWq.out], HOw.out, Lib.hid ⟨HNx.out.1, by rw [HNx.out.2.1, HNl.out], HNx.out.2.2⟩, HBl.out⟩
          case measure => rw [HWq.out]; simp [intOf] <;> omega
    · obtain rfl : m = 0 := by omega
      have ht : decide (0 ≤ ((0 : Nat) : Int) - 1) = false := by decide
      have HX := Lib.hid (HX0.out.below HB.out HX0.out.lt)
      obtain ⟨a0, a1, a2⟩ := cells3 HX.out
      obtain ⟨B, cb, rfl, hRb, hcb⟩ := own_rd (n := (ints bs).length) HO.out (two_digs HS.out.1)
      have hw3 : IntKind.i64.wrap (E * 16) = E * 16 := (wr50 (by have := HN.out; omega)).1
      have hw4 : wrap64 (E * 16) = E * 16 := (wr50 (by have := HN.out; omega)).2
      have HRb := Lib.hid hRb
      have HSb := Lib.hid (show Two bs ∧ hv bs = ofd 65536 l from ⟨HS.out.1, by have := HS.out.2.2; rwa [List.drop_zero] at this⟩)
      have HLb := Lib.hid (show (ints bs).length ≤ 268435456 by have := HS.out.2.1; have := HN.out; simp [ints]; omega)
      have hsz : (ints bs).length = (ints bs).length := rfl
      obtain ⟨nb, hnb⟩ : ∃ nb, (ints bs).length = nb := ⟨_, rfl⟩
      rw [hnb] at HLb
      rw [hnb]
      have HRb2 := Lib.hid (show Rd wo B nb cb bs from ⟨by rw [← hnb]; simp [ints], by rw [← hnb]; have := HRb.out.2.1; simpa [ints] using this, HRb.out.2.2.1, HRb.out.2.2.2.1, HRb.out.2.2.2.2⟩)
      clear hlt hm hRb hnb hsz HRb HO HS
      go_upto_block 4 with fail
      go_cut [4] (fun a wx => ∃ (A' : Option Addr) (n' c' : Nat) (b' : List Nat), a = .slice A' n' c' ∧ Hid (n' ≤ nb ∧ Rd wo A' n' c' b' ∧ Two b' ∧ hv b' = ofd 65536 l ∧ b'.head? ≠ some 0 ∧ c' ≤ 9223372036854775807) ∧ wx = wo)
      case first =>
        go_wp2_with fail
        go_loop [4] (fun a => ∃ (A' : Option Addr) (n' c' : Nat) (b' : List Nat), a = .slice A' n' c' ∧ Hid (n' ≤ nb ∧ Rd wo A' n' c' b' ∧ Two b' ∧ hv b' = ofd 65536 l ∧ c' ≤ 9223372036854775807)) (fun a => match a with | .slice _ n _ => n | _ => 0)
        case atStart => exact ⟨B, nb, cb, bs, rfl, Lib.hid ⟨Nat.le_refl _, HRb2.out, HSb.out.1, HSb.out.2, hcb⟩⟩
        case round =>
          obtain ⟨A', n', c', b', rfl, HR⟩ := hrel
          cases b' with
          | nil =>
            have h0 : n' = 0 := HR.out.2.1.1
            subst h0
            go_wp2_with fail
            go_meet
            exact ⟨A', 0, c', [], rfl, Lib.hid ⟨Nat.zero_le _, HR.out.2.1, Two.nil, HR.out.2.2.2.1, by simp, HR.out.2.2.2.2⟩, rfl⟩
          | cons d t =>
            obtain ⟨b, o, rfl, hcell⟩ := HR.out.2.1.at0
            obtain ⟨k, rfl⟩ : ∃ k, n' = k + 1 := ⟨t.length, HR.out.2.1.1⟩
            by_cases hd : d = 0
            · have ht : ((d : Int) == 0) = true := by simp [hd]
              have HD0 := Lib.hid hd
              clear hd
              go_wp2_with fail
              go_round
              case rel => exact ⟨_, k, c' - 1, t, rfl, Lib.hid ⟨by have := HR.out.1; omega, HR.out.2.1.tail_, HR.out.2.2.1.tail, by have := HR.out.2.2.2.1; rw [HD0.out, hv_zero] at this; exact this, by have := HR.out.2.2.2.2; omega⟩⟩
              case measure => simp
            · have ht : ((d : Int) == 0) = false := by simp; omega
              have HD0 := Lib.hid hd
              clear hd
              go_wp2_with fail
              go_meet
              exact ⟨_, k + 1, c', d :: t, rfl, Lib.hid ⟨HR.out.1, HR.out.2.1, HR.out.2.2.1, HR.out.2.2.2.1, by simpa using HD0.out, HR.out.2.2.2.2⟩, rfl⟩
      case rest =>
        obtain ⟨A', n', c', b', rfl, HR, rfl⟩ := hcut
        go_wp2_with fail
        go_loop [4, 7] (fun a e => ∃ (A'' : Option Addr) (n'' c'' : Nat) (b'' : List Nat) (E' : Int), a = .slice A'' n'' c'' ∧ e = .int .i64 E' ∧ Hid (E'.natAbs + n'' ≤ 17592186044416 + nb ∧ n'' ≤ nb ∧ c'' ≤ 9223372036854775807) ∧ Hid (Rd wc A'' n'' c'' b'' ∧ Two b'' ∧ dy (hv b'' : Int) E' = dy (ofd 65536 l : Int) (16 * E) ∧ b''.head? ≠ some 0)) (fun a _ => match a with | .slice _ n _ => n | _ => 0)
        case atStart => exact ⟨A', n', c', b', E * 16, rfl, rfl, Lib.hid ⟨by have := HN.out; have := HR.out.1; omega, HR.out.1, HR.out.2.2.2.2.2⟩, Lib.hid ⟨HR.out.2.1, HR.out.2.2.1, by rw [HR.out.2.2.2.1, Int.mul_comm], HR.out.2.2.2.2.1⟩⟩
        case round =>
          obtain ⟨A'', n'', c'', b'', E', rfl, rfl, HE, HS⟩ := hrel
          rcases List.eq_nil_or_concat b'' with rfl | ⟨t, d, rfl⟩
          · have h0 : n'' = 0 := HS.out.1.1
            subst h0
            go_wp2_with fail
            go_ret2
            exact ⟨A'', 0, c'', [], E', rfl, HS.out.1, Two.nil, .inl rfl, HS.out.2.2.1, by have := HE.out; have := HLb.out; omega, Nat.zero_le _, below_nx HB0.out HB.out⟩
          · rw [List.concat_eq_append] at HS
            obtain ⟨b, o, rfl, hcell⟩ := HS.out.1.last
            obtain ⟨k, hk⟩ : ∃ k, t.length = k := ⟨_, rfl⟩
            have hn2 : n'' = k + 1 := by have := HS.out.1.1; simp at this; omega
            subst hn2
            rw [hk] at hcell
            have hkc : (k : Int) ≤ (c'' : Int) := by have := HS.out.1.2.1; omega
            have hkc2 : k ≤ c'' := by omega
            have HK := Lib.hid hk
            clear hk
            have hd2 : d < 2 := HS.out.2.1 d (by simp)
            have hkb : k ≤ 268435456 := by have := HE.out; have := HLb.out; omega
            by_cases hd : d = 0
            · have ht : ((d : Int) == 0) = true := by simp [hd]
              have HD0 := Lib.hid hd
              have HWE := Lib.hid (show wrap64 (E' + 1) = E' + 1 from (wr50 (by have := HE.out; have := HLb.out; omega)).2)
              clear hd hd2
              go_wp2_with fail
              go_round
              case rel => exact ⟨_, k, c'', t, E' + 1, rfl, by rw [HWE.out], Lib.hid ⟨by have := HE.out; omega, by have := HE.out; omega, HE.out.2.2⟩, Lib.hid ⟨by have := HS.out.1.init; rw [HK.out] at this; exact this, HS.out.2.1.init, by
                have := HS.out.2.2.1
                rw [HD0.out, hv_last] at this
                rw [← this, show ((2 * hv t : Nat) : Int) = (hv t : Int) * 2 ^ 1 by omega, dy_pow]; rfl, by
                have := HS.out.2.2.2
                cases t with
                | nil => rw [HD0.out] at this; simp at this
                | cons x u => simpa using this⟩⟩
              case measure => simp
            · have ht : ((d : Int) == 0) = false := by simp; omega
              have HD1 := Lib.hid (show d = 1 by omega)
              clear hd hd2
              go_wp2_with fail
              go_ret2
              refine ⟨_, k + 1, c'', t ++ [d], E', rfl, HS.out.1, HS.out.2.1, .inr ⟨?_, by simp [HD1.out]⟩, HS.out.2.2.1, by have := HE.out; have := HLb.out; omega, by have := HE.out; have := HLb.out; omega, below_nx HB0.out HB.out⟩
              have h1 := HS.out.2.2.2
              cases t with
              | nil => simp [HD1.out]
              | cons x u =>
                have h2 := HS.out.2.1 x (by simp)
                simp at h1 ⊢
                omega

end Go.Proofs.YtbkbeglmfhaleaaGreatDoor
/-
A number's text, by its odd part's binary digits. Conditions: none.
-/
set_option linter.unusedVariables false
namespace Go.Proofs.YtbkbeglmfhaleaaGreatDoor

/-- The text of a number, by its odd part's binary digits. -/
theorem txt_odd {neg : Bool} {b : List Nat} {e : Int} (hT : Two b) (h1 : b.head? = some 1) (h2 : b.getLast? = some 1) :
    txt (dy (sgd neg (hv b)) e) = (if neg = true then [45] else []) ++ hexN (hv b) ++ [112] ++ Lib.itoa e := by
  have ho := hv_odd h2
  have hm : sgd neg (hv b) % 2 = 1 := by unfold sgd; split <;> omega
  unfold txt
  rw [mant_dy _ _ hm, expo_dy _ _ hm]
  have h0 : sgd neg (hv b) ≠ 0 := by omega
  rw [if_neg h0, show (sgd neg (hv b)).natAbs = hv b by unfold sgd; split <;> simp]
  congr 3
  unfold ng sgd
  cases neg
  · simp
  · have : hv b ≠ 0 := by omega
    simp; omega
end Go.Proofs.YtbkbeglmfhaleaaGreatDoor
