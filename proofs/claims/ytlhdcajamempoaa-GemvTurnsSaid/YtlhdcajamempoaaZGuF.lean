/-
GemvTurns: the walk. Conditions: as it says.
-/
import Derived.Test.YtlhdcajamempoaaZGuE
set_option linter.unusedVariables false
set_option linter.unusedSimpArgs false
set_option linter.unnecessarySimpa false
namespace Go.Proofs.Ytlhdcajamempoaa
open Go.RowKit
attribute [local go_sem ↓] Go.wp_at_zero Go.wp_at_succ

theorem GuV.open_ {z : Nat} {V : List Int} {v : Value} {i : Nat} {L : List Nat} {W : World} (h : GuV z V v i L W) (h1 : 1 ≤ i) : ∃ gx dx, v = .slice (some ⟨gx, 0, none⟩) i dx ∧ z ≤ gx ∧ Own W gx L := by
  obtain ⟨k1, k2, k3⟩ := h
  have hne : v ≠ .slice none 0 0 := fun e => by
    rcases k3.2 with k | ⟨g, cap, cur, k4, _⟩
    · obtain ⟨a, b⟩ := k
      omega
    · rw [e] at k4; cases k4
  obtain ⟨gx, dx, e1, e2, _, _, e3⟩ := own_of k3 hne k1.symm
  exact ⟨gx, dx, e1, e2, e3⟩
/-- What is there before the two calls. -/
def GuK (w : World) (zA gA gB gx gY gZ r c N : Nat) (MA MB L : List Nat) (ly lz : List Nat) (W : World) : Prop :=
  (w.heap.size ≤ gA ∧ gA < gB ∧ gB < zA ∧ zA + 2 ≤ gx ∧ gx < gY ∧ gx < gZ ∧ gY ≠ gZ) ∧ Below w.heap.size w W ∧ Blk W zA 26 #[.slice (some ⟨gA, 0, none⟩) N N, .int .i64 (0 : Int), .int .i64 (r : Int), .int .i64 (c : Int), .int .i64 (r : Int)] ∧ Blk W (zA + 1) 26 #[.slice (some ⟨gB, 0, none⟩) N N, .int .i64 (0 : Int), .int .i64 (c : Int), .int .i64 (r : Int), .int .i64 (c : Int)] ∧ Own W gA MA ∧ Own W gB MB ∧ Own W gx L ∧ Own W gY ly ∧ Own W gZ lz
theorem GuK.nxt {w : World} {zA gA gB gx gY gZ r c N : Nat} {MA MB L ly lz : List Nat} {W W' : World} (h : GuK w zA gA gB gx gY gZ r c N MA MB L ly lz W) (hb : Below W.heap.size W W') : GuK w zA gA gB gx gY gZ r c N MA MB L ly lz W' := by
  obtain ⟨h0, h1, h2, h3, h4, h5, h6, h7, h8⟩ := h
  exact ⟨h0, below_nx h1 hb, h2.nxt hb, h3.nxt hb, h4.nxt hb, h5.nxt hb, h6.nxt hb, h7.nxt hb, h8.nxt hb⟩
theorem gu_kept {w : World} {zA gA gB gx y z r c N : Nat} {A : Nat → Nat → Int} {a b a' b' : Nat} {MA MB L ly lz : List Nat} {W W' : World} (h : GuT w (zA + 2) zA gA gB r c N A a b a' b' W) (hs : GuS w (zA + 2) zA gA gB) (hA : Own W gA MA) (hB : Own W gB MB) (hX : Own W gx L) (hg : zA + 2 ≤ gx) (hb : Below W.heap.size W W') (hy : Own W' y ly) (hz : Own W' z lz) (e1 : y ≠ z) (e2 : W.heap.size ≤ y) (e3 : W.heap.size ≤ z) : GuK w zA gA gB gx y z r c N MA MB L ly lz W' := by
  obtain ⟨h1, h2, h3, h4, h5, h6⟩ := h
  obtain ⟨s1, s2, s3, s4⟩ := hs
  have := hX.lt
  exact ⟨⟨s1, s2, s3, hg, by omega, by omega, e1⟩, below_nx h1 hb, h3.nxt hb, h4.nxt hb, hA.nxt hb, hB.nxt hb, hX.nxt hb, hy, hz⟩
theorem GuK.setY {w : World} {zA gA gB gx gY gZ r c N : Nat} {MA MB L ly lz m : List Nat} {W W' : World} (h : GuK w zA gA gB gx gY gZ r c N MA MB L ly lz W) (hc : Chg [gY] W W') (ho : Own W' gY m) : GuK w zA gA gB gx gY gZ r c N MA MB L m lz W' := by
  obtain ⟨⟨s1, s2, s3, s4, s5, s6, s7⟩, h1, h2, h3, h4, h5, h6, h7, h8⟩ := h
  exact ⟨⟨s1, s2, s3, s4, s5, s6, s7⟩, hc.below h1 h1.size (by intro g hg; simp at hg; omega), hc.blk (by simp; omega) h2, hc.blk (by simp; omega) h3, hc.own (by simp; omega) h4, hc.own (by simp; omega) h5, hc.own (by simp; omega) h6, ho, hc.own (by simp; omega) h8⟩
theorem GuK.setZ {w : World} {zA gA gB gx gY gZ r c N : Nat} {MA MB L ly lz m : List Nat} {W W' : World} (h : GuK w zA gA gB gx gY gZ r c N MA MB L ly lz W) (hc : Chg [gZ] W W') (ho : Own W' gZ m) : GuK w zA gA gB gx gY gZ r c N MA MB L ly m W' := by
  obtain ⟨⟨s1, s2, s3, s4, s5, s6, s7⟩, h1, h2, h3, h4, h5, h6, h7, h8⟩ := h
  exact ⟨⟨s1, s2, s3, s4, s5, s6, s7⟩, hc.below h1 h1.size (by intro g hg; simp at hg; omega), hc.blk (by simp; omega) h2, hc.blk (by simp; omega) h3, hc.own (by simp; omega) h4, hc.own (by simp; omega) h5, hc.own (by simp; omega) h6, hc.own (by simp; omega) h7, ho⟩
theorem i8_bd {l : List Int} (h : ∀ z ∈ l, I8 z) (k : Nat) : (l.getD k 0).natAbs ≤ 128 := by
  rcases Nat.lt_or_ge k l.length with hk | hk
  · have : l.getD k 0 = l[k] := by simp [List.getD, hk]
    rw [this]
    have := h _ (List.getElem_mem hk)
    unfold I8 at this
    omega
  · have : l.getD k 0 = 0 := by simp [List.getD, hk]
    rw [this]
    decide
set_option maxRecDepth 100000 in
set_option maxHeartbeats 4000000 in
theorem gemvTurns_long (A1 : Option Addr) (n1 d1 : Nat) (P : List Int) (A2 : Option Addr) (n2 d2 : Nat) (V : List Int) (p q r c N : Nat) (w : World) (hR1 : Row w A1 (i8s P)) (hR2 : Row w A2 (i8s V)) (hP : P.length = n1) (hV : V.length = n2) (hIP : ∀ z ∈ P, I8 z) (hIV : ∀ z ∈ V, I8 z) (hp : p < 256) (hq : q < 256) (hr : 1 + p % 8 = r) (hc : 1 + q % 8 = c) (hN : r * c = N) (hN1 : N ≤ n1) (hr2 : r ≤ n2) :
    Calls Try.prog 3 #[.slice A1 n1 d1, .slice A2 n2 d2, .int .u8 (p : Int), .int .u8 (q : Int)] w fun e w' => e = .returned (.bool true) ∧ Below w.heap.size w w' := by
  obtain ⟨s, t, HU⟩ := gu_ints hp hq hr hc hN
  obtain ⟨b1, hb1⟩ : ∃ b, decide (n1 < N) = b := ⟨_, rfl⟩
  obtain ⟨b2, hb2⟩ : ∃ b, decide (n2 < r) = b := ⟨_, rfl⟩
  have i1 : decide ((n1 : Int) < (N : Int)) = b1 := by rw [← hb1]; simp
  have i2 : decide ((n2 : Int) < (r : Int)) = b2 := by rw [← hb2]; simp
  obtain rfl : b1 = false := by rw [← hb1]; exact decide_eq_false (by omega)
  obtain rfl : b2 = false := by rw [← hb2]; exact decide_eq_false (by omega)
  have HLn := Lib.hid (show 1 ≤ r ∧ r ≤ 8 ∧ 1 ≤ c ∧ c ≤ 8 ∧ r * c = N ∧ N ≤ n1 ∧ r ≤ n2 ∧ P.length = n1 ∧ V.length = n2 from ⟨by omega, by omega, by omega, by omega, hN, hN1, hr2, hP, hV⟩)
  have HI := Lib.hid (And.intro hIP hIV)
  have HA1 := Lib.hid hR1
  have HA2 := Lib.hid hR2
  have HD1 := Lib.hid (fun W => gu_dense r c N W HLn.out.1 HLn.out.2.1 HLn.out.2.2.2.1 HLn.out.2.2.2.2.1)
  have HD2 := Lib.hid (fun W => gu_dense c r N W HLn.out.2.2.1 HLn.out.2.2.2.1 HLn.out.2.1 (by rw [Nat.mul_comm]; exact HLn.out.2.2.2.2.1))
  clear hp hq hr hc hN hN1 hr2 hP hV hIP hIV hR1 hR2
  obtain ⟨⟨c1, c2, c3, c4, c5⟩, ⟨u1, u2⟩, ⟨u3, u4⟩, ⟨u5, u6⟩, ⟨u7, u8⟩, ⟨u9, u10⟩, ⟨u11, u12⟩, ⟨u13, u14⟩⟩ := HU.out
  clear HU
  go_enter Try.func3, Try.ntmps3
  go_wp2_with fail
  refine (awake7_any _).mono ?_
  rintro e w1 ⟨rfl, hb⟩
  have HB1 := Lib.hid hb
  clear hb
  go_wp2_with fail
  refine (HD1.out _).mono ?_
  rintro e w2 ⟨gA, MA, rfl, hml, ho, hg, hb⟩
  have HB2 := Lib.hid (below_nx HB1.out hb)
  have HMA := Lib.hid (And.intro hml ho)
  have HgA := Lib.hid (show w.heap.size ≤ gA from Nat.le_trans HB1.out.size hg)
  clear hml ho hg hb
  go_wp2_with fail
  refine (HD2.out _).mono ?_
  rintro e w3 ⟨gB, MB, rfl, hml, ho, hg, hb⟩
  have HB3 := Lib.hid (below_nx HB2.out hb)
  have HMB := Lib.hid (And.intro hml ho)
  have HMA3 := Lib.hid (HMA.out.2.nxt hb)
  have HgB := Lib.hid (show w.heap.size ≤ gB ∧ gA < gB from ⟨Nat.le_trans HB2.out.size hg, Nat.lt_of_lt_of_le HMA.out.2.lt hg⟩)
  clear hml ho hg hb
  go_wp2_with fail
  have HZ := Lib.hid (show GuS w (w3.heap.size + 2) w3.heap.size gA gB from ⟨HgA.out, HgB.out.2, HMB.out.2.lt, Nat.le_refl _⟩)
  obtain ⟨Af, hAf⟩ : ∃ Af : Nat → Nat → Int, (fun i j => P.getD (i * c + j) 0) = Af := ⟨_, rfl⟩
  have HAf := Lib.hid (show ∀ i j, Af i j = P.getD (i * c + j) 0 from fun i j => by rw [← hAf])
  have HT0 := Lib.hid (show GuT w (w3.heap.size + 2) w3.heap.size gA gB r c N Af 0 0 0 0 ((w3.alloc (.cells #[.slice (some ⟨gA, 0, none⟩) N N, .int .i64 (0 : Int), .int .i64 (r : Int), .int .i64 (c : Int), .int .i64 (r : Int)] 26)).alloc (.cells #[.slice (some ⟨gB, 0, none⟩) N N, .int .i64 (0 : Int), .int .i64 (c : Int), .int .i64 (r : Int), .int .i64 (c : Int)] 26)) from
    ⟨below_al (below_al HB3.out), by simp, (Blk.new w3 26 #[.slice (some ⟨gA, 0, none⟩) N N, .int .i64 (0 : Int), .int .i64 (r : Int), .int .i64 (c : Int), .int .i64 (r : Int)]).alloc (.cells #[.slice (some ⟨gB, 0, none⟩) N N, .int .i64 (0 : Int), .int .i64 (c : Int), .int .i64 (r : Int), .int .i64 (c : Int)] 26), Blk.new_ (w3.alloc (.cells #[.slice (some ⟨gA, 0, none⟩) N N, .int .i64 (0 : Int), .int .i64 (r : Int), .int .i64 (c : Int), .int .i64 (r : Int)] 26)) 26 #[.slice (some ⟨gB, 0, none⟩) N N, .int .i64 (0 : Int), .int .i64 (c : Int), .int .i64 (r : Int), .int .i64 (c : Int)] (w3.heap.size + 1) (by simp), ⟨MA, Ptb.zero HMA.out.1, (HMA3.out.nxt (below_one (o := (.cells #[.slice (some ⟨gA, 0, none⟩) N N, .int .i64 (0 : Int), .int .i64 (r : Int), .int .i64 (c : Int), .int .i64 (r : Int)] 26)))).nxt (below_one (o := (.cells #[.slice (some ⟨gB, 0, none⟩) N N, .int .i64 (0 : Int), .int .i64 (c : Int), .int .i64 (r : Int), .int .i64 (c : Int)] 26)))⟩, ⟨MB, Ptb.zero HMB.out.1, (HMB.out.2.nxt (below_one (o := (.cells #[.slice (some ⟨gA, 0, none⟩) N N, .int .i64 (0 : Int), .int .i64 (r : Int), .int .i64 (c : Int), .int .i64 (r : Int)] 26)))).nxt (below_one (o := (.cells #[.slice (some ⟨gB, 0, none⟩) N N, .int .i64 (0 : Int), .int .i64 (c : Int), .int .i64 (r : Int), .int .i64 (c : Int)] 26)))⟩⟩)
  clear hAf
  generalize ((w3.alloc (.cells #[.slice (some ⟨gA, 0, none⟩) N N, .int .i64 (0 : Int), .int .i64 (r : Int), .int .i64 (c : Int), .int .i64 (r : Int)] 26)).alloc (.cells #[.slice (some ⟨gB, 0, none⟩) N N, .int .i64 (0 : Int), .int .i64 (c : Int), .int .i64 (r : Int), .int .i64 (c : Int)] 26)) = w4 at *
  obtain ⟨zA, hzA⟩ : ∃ zA, w3.heap.size = zA := ⟨_, rfl⟩
  rw [hzA] at HZ HT0 ⊢
  clear hzA
  clear c1 c2 c3 c4 c5 u1 u2 u3 u4 u5 u6 u7 u8 u9 u10 u11 u12 u13 u14 i1 i2 hb1 hb2
  have HZl := Lib.hid (show gA < zA + 2 ∧ gB < zA + 2 from ⟨by have := HZ.out.2.1; have := HZ.out.2.2.1; omega, by have := HZ.out.2.2.1; omega⟩)
  obtain ⟨i0, hi, hz0, hz1, hz2⟩ := fi0
  go_loopw [13, 14] (fun v a wr => ∃ (i : Nat) (L : List Nat), i ≤ r ∧ a = .int .i64 i ∧ Hid (GuV (zA + 2) V v i L wr) ∧ Hid (GuT w (zA + 2) zA gA gB r c N Af i 0 i 0 wr)) (fun _ a _ => r - (intOf a).toNat)
  case atStart => exact ⟨0, [], Nat.zero_le _, rfl, Lib.hid ⟨rfl, fun k hk => by omega, World.ownsRow_nil _ _ _ _⟩, HT0⟩
  case round =>
    obtain ⟨i, L, hi8, rfl, HV, HT⟩ := hrel
    by_cases hlt : i < r
    · have hic : (i : Int) < (r : Int) := by omega
      have hi1 : i + 1 ≤ 1048576 := by have := HLn.out.2.1; omega
      obtain ⟨b2, o2, rfl, hcx⟩ := i8_at (HA2.out.below HT.out.1) HLn.out.2.2.2.2.2.2.2.2 (show i < n2 by have := HLn.out.2.2.2.2.2.2.1; omega)
      have hex := i8_ex HI.out.2 HLn.out.2.2.2.2.2.2.2.2 (show i < n2 by have := HLn.out.2.2.2.2.2.2.1; omega)
      have hi2 : (i : Int) < (n2 : Int) := by have := HLn.out.2.2.2.2.2.2.1; omega
      have hi0' : (0 : Int) ≤ (i : Int) := by omega
      obtain ⟨xv, hxv⟩ : ∃ xv, V.getD i 0 = xv := ⟨_, rfl⟩
      have HEx := Lib.hid hex
      rw [hxv] at hcx
      have HXV := Lib.hid hxv
      clear hex
      have HTw := Lib.hid (HT.out.keep HZ.out (Below.refl (zA + 2) wr))
      have HN := Lib.hid (Blk.new wr 28 #[.float .f64 (floatOfInt .f64 xv)])
      have HOw2 := Lib.hid (HV.out.2.2.alloc (.cells #[.float .f64 (floatOfInt .f64 xv)] 28))
      rw [hxv] at HEx
      clear hxv
      go_wp2_with (at_builtin; refine wpList_append_own _ rfl _ _ 24 rfl (zA + 2) 28 i0 (.float .f64 0) 1 8 Try.underlying24 hi hz0 hz1 hz2 rfl (by decide) _ i (f64s L) rfl HOw2.out ⟨wr.heap.size, 0, none⟩ 1 1 [.float .f64 (floatOfInt .f64 xv)] rfl rfl ?c1 (by intro u hu; simp at hu; subst hu; rfl) ?c3 ?c4 ?c5 ?_)
      case c1 =>
        intro j u hj
        match j, hj with
        | 0, hj =>
          have : u = .float .f64 (floatOfInt .f64 xv) := by simpa using hj.symm
          subst this
          exact HN.out.cell 0
        | j + 1, hj => simp at hj
      case c3 => unfold maxLen; omega
      case c4 => omega
      case c5 => (try simp); have := HT.out.2.1; omega
      intro v' w' hown' hgrow _
      have HV2 := Lib.hid (show GuV (zA + 2) V v' (i + 1) (L ++ [floatOfInt .f64 xv]) w' from ⟨by simp [HV.out.1], AxQ_all (R := fun k b => EX b (V.getD k 0)) HV.out.1 HV.out.2.1 (by rw [HXV.out]; exact HEx.out), by rw [f64s_snoc]; exact hown'⟩)
      have HT2 := Lib.hid (HT.out.keep HZ.out (((Below.refl (zA + 2) wr).alloc HT.out.2.1 (.cells #[.float .f64 (floatOfInt .f64 xv)] 28)).grown hgrow (by simp; have := HT.out.2.1; omega) (fun k hk => by have := (HOw2.out.lt k hk).1; omega)))
      clear hown' hgrow hcx HN HOw2 HTw HV HT
      go_wp2_with fail
      go_loopw [15] (fun b wi => ∃ j : Nat, j ≤ c ∧ b = .int .i64 j ∧ Hid (GuV (zA + 2) V v' (i + 1) (L ++ [floatOfInt .f64 xv]) wi) ∧ Hid (GuT w (zA + 2) zA gA gB r c N Af i j i j wi)) (fun b _ => c - (intOf b).toNat)
      case atStart => exact ⟨0, Nat.zero_le _, rfl, HV2, HT2⟩
      case round =>
        obtain ⟨j, hj8, rfl, HV3, HT3⟩ := hrel
        by_cases hjt : j < c
        · have hjc : (j : Int) < (c : Int) := by omega
          have hj1 : j + 1 ≤ 1048576 := by have := HLn.out.2.2.2.1; omega
          obtain ⟨q1, hq1⟩ : ∃ q1, i * c = q1 := ⟨_, rfl⟩
          obtain ⟨Q, hQ⟩ : ∃ Q, q1 + j = Q := ⟨_, rfl⟩
          have hQn : Q < n1 := by
            have := tab_lt hlt hjt
            rw [HLn.out.2.2.2.2.1, hq1, hQ] at this
            exact Nat.lt_of_lt_of_le this HLn.out.2.2.2.2.2.1
          have hQ64 : Q < 64 := by
            have := tab_lt hlt hjt
            have h8 := Nat.mul_le_mul HLn.out.2.1 HLn.out.2.2.2.1
            rw [hq1, hQ] at this
            omega
          obtain ⟨b1, o1, rfl, hcp⟩ := i8_at (HA1.out.below HT3.out.1) HLn.out.2.2.2.2.2.2.2.1 hQn
          have hep := i8_ex HI.out.1 HLn.out.2.2.2.2.2.2.2.1 hQn
          have hat := HAf.out i j
          rw [hq1, hQ] at hat
          obtain ⟨pv, hpv⟩ : ∃ pv, P.getD Q 0 = pv := ⟨_, rfl⟩
          rw [hpv] at hcp hep hat
          rw [← hat] at hep
          have HSA := Lib.hid (gu_setA wr HLn.out.2.2.2.2.1 HLn.out.2.1 HLn.out.2.2.2.1 hlt hjt HT3.out.2.2.2.2.1 hep)
          have HSB := Lib.hid (fun W hT => gu_setB (g := gB) (A := Af) W HLn.out.2.2.2.2.1 HLn.out.2.1 HLn.out.2.2.2.1 hlt hjt hT hep)
          rw [hat] at HSA HSB
          have e1 : (i : Int) * (c : Int) = (q1 : Int) := by rw [← hq1]; simp
          have e2 : (q1 : Int) + (j : Int) = (Q : Int) := by omega
          have e3 : (Q : Int) < (n1 : Int) := by omega
          have e4 : (0 : Int) ≤ (Q : Int) := by omega
          obtain ⟨v1, v2⟩ := wr2 (q := q1) (by omega)
          obtain ⟨v3, v4⟩ := wr2 (q := Q) (by omega)
          clear hep hat hpv hq1 hQ
          obtain ⟨m0, m1, m2, m3, m4⟩ := cells5 HT3.out.2.2.1
          go_wp2_with fail
          refine HSA.out.mono ?_
          rintro e wa ⟨rfl, hta, hO⟩
          have HT4 := Lib.hid (HT3.out.setA HZ.out hO hta)
          have HV4 := Lib.hid (HV3.out.only hO HZl.out.1)
          clear hta hO m0 m1 m2 m3 m4 hcp
          obtain ⟨m0, m1, m2, m3, m4⟩ := cells5 HT4.out.2.2.2.1
          go_wp2_with fail
          refine (HSB.out _ HT4.out.2.2.2.2.2).mono ?_
          rintro e wb ⟨rfl, hta, hO⟩
          have HT5 := Lib.hid (HT4.out.setB HZ.out hO hta)
          have HV5 := Lib.hid (HV4.out.only hO HZl.out.2)
          clear hta hO m0 m1 m2 m3 m4 e1 e2 e3 e4 v1 v2 v3 v4
          go_wp2_with fail
          go_roundw
          case rel => exact ⟨j + 1, by omega, by go_num, HV5, HT5⟩
          case measure => simp [intOf]; omega
        · obtain rfl : j = c := by omega
          have hjc : ¬ (j : Int) < (j : Int) := by omega
          have HT6 := Lib.hid (show GuT w (zA + 2) zA gA gB r j N Af (i + 1) 0 (i + 1) 0 wr from ⟨HT3.out.1, HT3.out.2.1, HT3.out.2.2.1, HT3.out.2.2.2.1, HT3.out.2.2.2.2.1.next, HT3.out.2.2.2.2.2.next⟩)
          go_wp2_with fail
          go_roundw
          case rel => exact ⟨i + 1, _, by omega, by go_num, HV3, HT6⟩
          case measure => simp [intOf]; omega
    · obtain rfl : i = r := by omega
      have hic : ¬ (i : Int) < (i : Int) := by omega
      obtain ⟨gx, dx, rfl, hgx, hX⟩ := HV.out.open_ HLn.out.1
      obtain ⟨MA1, hPA, hOA⟩ := HT.out.2.2.2.2.1
      obtain ⟨MB1, hPB, hOB⟩ := HT.out.2.2.2.2.2
      have HPA := Lib.hid (And.intro hPA.1 hPA.done)
      have HPB := Lib.hid (And.intro hPB.1 hPB.done)
      have HX := Lib.hid (And.intro hX hgx)
      have HOA := Lib.hid hOA
      have HOB := Lib.hid hOB
      clear hX hgx hOA hOB hPA hPB
      go_upto_region 18 with fail
      have hmk := fun V => frun_make c (by have := HLn.out.2.2.2.1; omega) V
      have HBd := Lib.hid (show ∀ a b, (Af a b * V.getD a 0).natAbs ≤ 16384 from fun a b => by
        rw [HAf.out a b, Int.natAbs_mul]
        exact Nat.mul_le_mul (i8_bd HI.out.1 _) (i8_bd HI.out.2 _))
      go_region_with (fail)
      · have hbn : Below wr.heap.size wr (((wr.alloc (.cells (f64s (List.replicate c 0)).toArray 28)).alloc (.cells (f64s (List.replicate c 0)).toArray 28)).drew) := (below_al (below_al (Below.refl wr.heap.size wr) (o := (.cells (f64s (List.replicate c 0)).toArray 28))) (o := (.cells (f64s (List.replicate c 0)).toArray 28))).drew
        have HK := Lib.hid (gu_kept HT.out HZ.out HOA.out HOB.out HX.out.1 HX.out.2 hbn (show Own (((wr.alloc (.cells (f64s (List.replicate c 0)).toArray 28)).alloc (.cells (f64s (List.replicate c 0)).toArray 28)).drew) (wr.heap.size) (List.replicate c 0) from (own_blk ((Blk.new wr 28 (f64s (List.replicate c 0)).toArray).alloc (.cells (f64s (List.replicate c 0)).toArray 28)))) (show Own (((wr.alloc (.cells (f64s (List.replicate c 0)).toArray 28)).alloc (.cells (f64s (List.replicate c 0)).toArray 28)).drew) (wr.heap.size + 1) (List.replicate c 0) from (own_blk (Blk.new_ (wr.alloc (.cells (f64s (List.replicate c 0)).toArray 28)) 28 (f64s (List.replicate c 0)).toArray (wr.heap.size + 1) (by simp)))) (by omega) (by omega) (by omega))
        clear hbn hmk HT HOA HOB HX
        go_upto_region 19 with fail
        generalize ((wr.alloc (.cells (f64s (List.replicate c 0)).toArray 28)).alloc (.cells (f64s (List.replicate c 0)).toArray 28)).drew = w5 at HK ⊢
        generalize wr.heap.size + 1 = gZ at HK ⊢
        generalize wr.heap.size = gY at HK ⊢
        have HKs := Lib.hid HK.out.1
        have HTu := Lib.hid (fun W lz (h : GuK w zA gA gB gx gY gZ i c N MA1 MB1 L (List.replicate c 0) lz W) => gu_turn gY gA gx c dx MA1 L i c N Af (fun k => V.getD k 0) W h.2.2.2.2.2.2.2.1 h.2.2.2.2.1 h.2.2.2.2.2.2.1 (by have := HKs.out; omega) (by have := HKs.out; omega) HLn.out.2.2.2.2.1 HLn.out.1 HLn.out.2.1 HLn.out.2.2.1 HLn.out.2.2.2.1 HPA.out.1 HV.out.1 HPA.out.2 HV.out.2.1 HBd.out)
        have HMu := Lib.hid (fun W ly (h : GuK w zA gA gB gx gY gZ i c N MA1 MB1 L ly (List.replicate c 0) W) => gu_mul gZ gB gx c dx MB1 L i c N Af (fun k => V.getD k 0) W h.2.2.2.2.2.2.2.2 h.2.2.2.2.2.1 h.2.2.2.2.2.2.1 (by have := HKs.out; omega) (by have := HKs.out; omega) HLn.out.2.2.2.2.1 HLn.out.1 HLn.out.2.1 HLn.out.2.2.1 HLn.out.2.2.2.1 HPB.out.1 HV.out.1 HPB.out.2 HV.out.2.1 HBd.out (fun k => i8_bd HI.out.2 k))
        have HVb := Lib.hid (Blk.new w5 32 #[.slice (some ⟨gx, 0, none⟩) i dx, .int .i64 (0 : Int), .int .i64 (i : Int), .int .i64 (1 : Int)])
        have HK2 := Lib.hid (HK.out.nxt (below_one (o := (.cells #[.slice (some ⟨gx, 0, none⟩) i dx, .int .i64 (0 : Int), .int .i64 (i : Int), .int .i64 (1 : Int)] 32))))
        have HVn := Lib.hid (show w5.heap.size ≠ gY ∧ w5.heap.size ≠ gZ from ⟨by have := HK.out.2.2.2.2.2.2.2.1.lt; omega, by have := HK.out.2.2.2.2.2.2.2.2.lt; omega⟩)
        clear HK HV HPA HPB
        obtain ⟨m0, m1, m2, m3, m4⟩ := cells5 HK2.out.2.2.1
        obtain ⟨k0, k1, k2, k3⟩ := cells4w HVb.out
        go_wp2_with fail
        refine (HTu.out _ _ HK2.out).mono ?_
        rintro e w7 ⟨rfl, y, hy1, hy2, hy3, hy4⟩
        have HK3 := Lib.hid (HK2.out.setY hy4 hy3)
        have HVb3 := Lib.hid (hy4.blk (by simpa using HVn.out.1) HVb.out)
        have HY := Lib.hid (And.intro hy1 hy2)
        clear hy1 hy2 hy3 hy4 m0 m1 m2 m3 m4 k0 k1 k2 k3 HTu HK2 HVb
        generalize w5.heap.size = pV at *
        obtain ⟨m0, m1, m2, m3, m4⟩ := cells5 HK3.out.2.2.2.1
        obtain ⟨k0, k1, k2, k3⟩ := cells4w HVb3.out
        go_wp2_with fail
        refine (HMu.out _ _ HK3.out).mono ?_
        rintro e w8 ⟨rfl, z, hz1, hz2, hz3, hz4⟩
        have HK4 := Lib.hid (HK3.out.setZ hz4 hz3)
        have HZ4 := Lib.hid (And.intro hz1 hz2)
        clear hz1 hz2 hz3 hz4 m0 m1 m2 m3 m4 k0 k1 k2 k3 HMu HK3 HVb3
        go_wp2_with fail
        go_loopw [22] (fun a wr => ∃ k : Nat, k ≤ c ∧ a = .int .i64 k ∧ Hid (Below w8.heap.size w8 wr)) (fun a _ => c - (intOf a).toNat)
        case atStart => exact ⟨0, Nat.zero_le _, rfl, Lib.hid (Below.refl _ _)⟩
        case round =>
          obtain ⟨k, hk8, rfl, HBr⟩ := hrel
          by_cases hkt : k < c
          · have hkc : (k : Int) < (c : Int) := by omega
            have hk0 : (0 : Int) ≤ (k : Int) := by omega
            have hk1 : k + 1 ≤ 1048576 := by have := HLn.out.2.2.2.1; omega
            have hcy := (HK4.out.2.2.2.2.2.2.2.1.nxt HBr.out).get k (by rw [HY.out.1]; exact hkt)
            have hcz := (HK4.out.2.2.2.2.2.2.2.2.nxt HBr.out).get k (by rw [HZ4.out.1]; exact hkt)
            have heq := turns_eq (HY.out.2 k hkt) (HZ4.out.2 k hkt)
            rw [getD_of_lt (by rw [HY.out.1]; exact hkt), getD_of_lt (by rw [HZ4.out.1]; exact hkt)] at heq
            generalize y[k]'(by rw [HY.out.1]; exact hkt) = yv at hcy heq
            generalize z[k]'(by rw [HZ4.out.1]; exact hkt) = zv at hcz heq
            go_wp2_with fail
            go_region_with (fail)
            all_goals
              clear hcy hcz
              go_wp2_with fail
              go_roundw
              case rel => exact ⟨k + 1, by omega, by go_num, Lib.hid HBr.out.drew⟩
              case measure => simp [intOf]; omega
          · obtain rfl : k = c := by omega
            have hkc : ¬ (k : Int) < (k : Int) := by omega
            go_wp2_with fail
            refine (awake7_any _).mono ?_
            rintro e w9 ⟨rfl, hb⟩
            have HB9 := Lib.hid (below_nx (below_nx HK4.out.2.1 HBr.out) hb)
            clear hb
            go_wp2_with fail
            go_ret
            exact ⟨rfl, HB9.out⟩
      · have hbn : Below wr.heap.size wr (((wr.alloc (.cells (f64s (List.replicate c 0)).toArray 28)).alloc (.cells (f64s (List.replicate c 0)).toArray 28)).drew) := (below_al (below_al (Below.refl wr.heap.size wr) (o := (.cells (f64s (List.replicate c 0)).toArray 28))) (o := (.cells (f64s (List.replicate c 0)).toArray 28))).drew
        have HK := Lib.hid (gu_kept HT.out HZ.out HOA.out HOB.out HX.out.1 HX.out.2 hbn (show Own (((wr.alloc (.cells (f64s (List.replicate c 0)).toArray 28)).alloc (.cells (f64s (List.replicate c 0)).toArray 28)).drew) (wr.heap.size + 1) (List.replicate c 0) from (own_blk (Blk.new_ (wr.alloc (.cells (f64s (List.replicate c 0)).toArray 28)) 28 (f64s (List.replicate c 0)).toArray (wr.heap.size + 1) (by simp)))) (show Own (((wr.alloc (.cells (f64s (List.replicate c 0)).toArray 28)).alloc (.cells (f64s (List.replicate c 0)).toArray 28)).drew) (wr.heap.size) (List.replicate c 0) from (own_blk ((Blk.new wr 28 (f64s (List.replicate c 0)).toArray).alloc (.cells (f64s (List.replicate c 0)).toArray 28)))) (by omega) (by omega) (by omega))
        clear hbn hmk HT HOA HOB HX
        go_upto_region 19 with fail
        generalize ((wr.alloc (.cells (f64s (List.replicate c 0)).toArray 28)).alloc (.cells (f64s (List.replicate c 0)).toArray 28)).drew = w5 at HK ⊢
        generalize wr.heap.size + 1 = gY at HK ⊢
        generalize wr.heap.size = gZ at HK ⊢
        have HKs := Lib.hid HK.out.1
        have HTu := Lib.hid (fun W lz (h : GuK w zA gA gB gx gY gZ i c N MA1 MB1 L (List.replicate c 0) lz W) => gu_turn gY gA gx c dx MA1 L i c N Af (fun k => V.getD k 0) W h.2.2.2.2.2.2.2.1 h.2.2.2.2.1 h.2.2.2.2.2.2.1 (by have := HKs.out; omega) (by have := HKs.out; omega) HLn.out.2.2.2.2.1 HLn.out.1 HLn.out.2.1 HLn.out.2.2.1 HLn.out.2.2.2.1 HPA.out.1 HV.out.1 HPA.out.2 HV.out.2.1 HBd.out)
        have HMu := Lib.hid (fun W ly (h : GuK w zA gA gB gx gY gZ i c N MA1 MB1 L ly (List.replicate c 0) W) => gu_mul gZ gB gx c dx MB1 L i c N Af (fun k => V.getD k 0) W h.2.2.2.2.2.2.2.2 h.2.2.2.2.2.1 h.2.2.2.2.2.2.1 (by have := HKs.out; omega) (by have := HKs.out; omega) HLn.out.2.2.2.2.1 HLn.out.1 HLn.out.2.1 HLn.out.2.2.1 HLn.out.2.2.2.1 HPB.out.1 HV.out.1 HPB.out.2 HV.out.2.1 HBd.out (fun k => i8_bd HI.out.2 k))
        have HVb := Lib.hid (Blk.new w5 32 #[.slice (some ⟨gx, 0, none⟩) i dx, .int .i64 (0 : Int), .int .i64 (i : Int), .int .i64 (1 : Int)])
        have HK2 := Lib.hid (HK.out.nxt (below_one (o := (.cells #[.slice (some ⟨gx, 0, none⟩) i dx, .int .i64 (0 : Int), .int .i64 (i : Int), .int .i64 (1 : Int)] 32))))
        have HVn := Lib.hid (show w5.heap.size ≠ gY ∧ w5.heap.size ≠ gZ from ⟨by have := HK.out.2.2.2.2.2.2.2.1.lt; omega, by have := HK.out.2.2.2.2.2.2.2.2.lt; omega⟩)
        clear HK HV HPA HPB
        obtain ⟨m0, m1, m2, m3, m4⟩ := cells5 HK2.out.2.2.1
        obtain ⟨k0, k1, k2, k3⟩ := cells4w HVb.out
        go_wp2_with fail
        refine (HTu.out _ _ HK2.out).mono ?_
        rintro e w7 ⟨rfl, y, hy1, hy2, hy3, hy4⟩
        have HK3 := Lib.hid (HK2.out.setY hy4 hy3)
        have HVb3 := Lib.hid (hy4.blk (by simpa using HVn.out.1) HVb.out)
        have HY := Lib.hid (And.intro hy1 hy2)
        clear hy1 hy2 hy3 hy4 m0 m1 m2 m3 m4 k0 k1 k2 k3 HTu HK2 HVb
        generalize w5.heap.size = pV at *
        obtain ⟨m0, m1, m2, m3, m4⟩ := cells5 HK3.out.2.2.2.1
        obtain ⟨k0, k1, k2, k3⟩ := cells4w HVb3.out
        go_wp2_with fail
        refine (HMu.out _ _ HK3.out).mono ?_
        rintro e w8 ⟨rfl, z, hz1, hz2, hz3, hz4⟩
        have HK4 := Lib.hid (HK3.out.setZ hz4 hz3)
        have HZ4 := Lib.hid (And.intro hz1 hz2)
        clear hz1 hz2 hz3 hz4 m0 m1 m2 m3 m4 k0 k1 k2 k3 HMu HK3 HVb3
        go_wp2_with fail
        go_loopw [22] (fun a wr => ∃ k : Nat, k ≤ c ∧ a = .int .i64 k ∧ Hid (Below w8.heap.size w8 wr)) (fun a _ => c - (intOf a).toNat)
        case atStart => exact ⟨0, Nat.zero_le _, rfl, Lib.hid (Below.refl _ _)⟩
        case round =>
          obtain ⟨k, hk8, rfl, HBr⟩ := hrel
          by_cases hkt : k < c
          · have hkc : (k : Int) < (c : Int) := by omega
            have hk0 : (0 : Int) ≤ (k : Int) := by omega
            have hk1 : k + 1 ≤ 1048576 := by have := HLn.out.2.2.2.1; omega
            have hcy := (HK4.out.2.2.2.2.2.2.2.1.nxt HBr.out).get k (by rw [HY.out.1]; exact hkt)
            have hcz := (HK4.out.2.2.2.2.2.2.2.2.nxt HBr.out).get k (by rw [HZ4.out.1]; exact hkt)
            have heq := turns_eq (HY.out.2 k hkt) (HZ4.out.2 k hkt)
            rw [getD_of_lt (by rw [HY.out.1]; exact hkt), getD_of_lt (by rw [HZ4.out.1]; exact hkt)] at heq
            generalize y[k]'(by rw [HY.out.1]; exact hkt) = yv at hcy heq
            generalize z[k]'(by rw [HZ4.out.1]; exact hkt) = zv at hcz heq
            go_wp2_with fail
            go_region_with (fail)
            all_goals
              clear hcy hcz
              go_wp2_with fail
              go_roundw
              case rel => exact ⟨k + 1, by omega, by go_num, Lib.hid HBr.out.drew⟩
              case measure => simp [intOf]; omega
          · obtain rfl : k = c := by omega
            have hkc : ¬ (k : Int) < (k : Int) := by omega
            go_wp2_with fail
            refine (awake7_any _).mono ?_
            rintro e w9 ⟨rfl, hb⟩
            have HB9 := Lib.hid (below_nx (below_nx HK4.out.2.1 HBr.out) hb)
            clear hb
            go_wp2_with fail
            go_ret
            exact ⟨rfl, HB9.out⟩
end Go.Proofs.Ytlhdcajamempoaa
