/-
How two numbers compare: by their signs, by where they end, by their difference's sign. Conditions: as each says.
-/
import Derived.Test.YtbkbeglmfhaleaaGreatDoorUch
import Derived.Test.YtbkbeglmfhaleaaGreatDoorShelf
set_option linter.unusedVariables false
set_option linter.unusedSimpArgs false
namespace Go.Proofs.YtbkbeglmfhaleaaGreatDoor
open Go.RowKit

theorem sgn_dy (m e : Int) : (mant (dy m e)).sign = m.sign := by
  by_cases h : m = 0
  · subst h; rw [dy_zero, mant_zero]
  · obtain ⟨y, v, hz, hy, ha, hb, hc⟩ := odd_part m h
    rw [(dy_parts (e := e) hz hy).1]
    have h2 : (0 : Int) < 2 ^ v := by exact_mod_cast Nat.two_pow_pos v
    rw [hz, Int.sign_mul, Int.sign_eq_one_of_pos h2, Int.mul_one]
theorem sgn_neg (d : Dyadic) : (mant (-d)).sign = -(mant d).sign := by rw [mant_neg, Int.sign_neg]
/-- Both over one power of 2. -/
theorem dy_both (d d' : Dyadic) : ∃ (M M' E : Int), d = dy M E ∧ d' = dy M' E ∧ E ≤ expo d ∧ E ≤ expo d' := by
  have h : ∀ (x : Dyadic) (E : Int), E ≤ expo x → ∃ M, x = dy M E := fun x E hE => by
    obtain ⟨t, ht⟩ : ∃ t : Nat, expo x = E + t := ⟨(expo x - E).toNat, by omega⟩
    exact ⟨mant x * 2 ^ t, by rw [dy_pow, ← ht, dy_mant]⟩
  obtain ⟨M, hM⟩ := h d (min (expo d) (expo d')) (by omega)
  obtain ⟨M', hM'⟩ := h d' (min (expo d) (expo d')) (by omega)
  exact ⟨M, M', _, hM, hM', by omega, by omega⟩
theorem sgn_diff {d d' : Dyadic} {M M' E : Int} (h : d = dy M E) (h' : d' = dy M' E) : (mant (d + -d')).sign = (M - M').sign := by
  subst h
  subst h'
  rw [dy_neg, dy_add, sgn_dy, Int.sub_eq_add_neg]
theorem sgn_apart (M M' : Int) (h : M.sign ≠ M'.sign) : (M - M').sign = Lib.compareInt M.sign M'.sign := by
  have key : ∀ x : Int, (x < 0 ∧ x.sign = -1) ∨ (x = 0 ∧ x.sign = 0) ∨ (0 < x ∧ x.sign = 1) := fun x => by
    rcases Int.lt_trichotomy x 0 with h | h | h
    · exact .inl ⟨h, Int.sign_eq_neg_one_of_neg h⟩
    · exact .inr (.inl ⟨h, by rw [h]; rfl⟩)
    · exact .inr (.inr ⟨h, Int.sign_eq_one_of_pos h⟩)
  rcases key M with ⟨h1, e1⟩ | ⟨h1, e1⟩ | ⟨h1, e1⟩ <;> rcases key M' with ⟨h2, e2⟩ | ⟨h2, e2⟩ | ⟨h2, e2⟩ <;> rcases key (M - M') with ⟨h3, e3⟩ | ⟨h3, e3⟩ | ⟨h3, e3⟩ <;> rw [e1, e2] at h <;> rw [e1, e2, e3] <;> first | rfl | (exfalso; omega)
/-- Of unlike signs. -/
theorem dcmp_sign {d d' : Dyadic} (h : (mant d).sign ≠ (mant d').sign) : (mant (d + -d')).sign = Lib.compareInt (mant d).sign (mant d').sign := by
  obtain ⟨M, M', E, h1, h2, _, _⟩ := dy_both d d'
  have e1 : (mant d).sign = M.sign := by rw [h1, sgn_dy]
  have e2 : (mant d').sign = M'.sign := by rw [h2, sgn_dy]
  rw [sgn_diff h1 h2, e1, e2]
  exact sgn_apart M M' (by rw [← e1, ← e2]; exact h)
/-- Of like signs, where the one ends further. -/
theorem dcmp_fin {d d' : Dyadic} (h0 : d ≠ 0) (h0' : d' ≠ 0) (hs : (mant d).sign = (mant d').sign) (hf : fin d' < fin d) : (mant (d + -d')).sign = (mant d).sign := by
  obtain ⟨M, M', E, h1, h2, h3, h4⟩ := dy_both d d'
  have hx := expo_fin h0'
  obtain ⟨k, hk⟩ : ∃ k : Nat, fin d' = E + k := ⟨(fin d' - E).toNat, by omega⟩
  have b2 : M'.natAbs < 2 ^ k := by
    obtain ⟨m, hm, hb⟩ := bxd_self (d := d') (e := E) (k := k) h4 (by omega)
    have : m = M' := by
      have e := hm.symm.trans h2
      have a1 := dy_lt m M' E
      have a2 := dy_lt M' m E
      rw [e] at a1 a2
      have i1 : ¬ (dy M' E < dy M' E) := by rw [dy_lt]; omega
      have n1 : ¬ m < M' := fun h => i1 (a1.2 h)
      have n2 : ¬ M' < m := fun h => i1 (a2.2 h)
      omega
    rw [← this]; exact hb
  have b1 : ¬ M.natAbs < 2 ^ k := fun hb => by
    have := (bxd_parts (d := d) (e := E) (k := k) ⟨M, h1, hb⟩ h0).2.1
    omega
  have e1 : (mant d).sign = M.sign := by rw [h1, sgn_dy]
  have e2 : (mant d').sign = M'.sign := by rw [h2, sgn_dy]
  rw [sgn_diff h1 h2, e1]
  rw [e1, e2] at hs
  generalize 2 ^ k = q at *
  rcases Int.lt_trichotomy M 0 with h | h | h
  · rw [Int.sign_eq_neg_one_of_neg h, Int.sign_eq_neg_one_of_neg (by omega)]
  · subst h
    have : ¬ (0 : Int).natAbs < q := b1
    have : q = 0 := by omega
    omega
  · rw [Int.sign_eq_one_of_pos h, Int.sign_eq_one_of_pos (by omega)]
theorem dcmp_fin2 {d d' : Dyadic} (h0 : d ≠ 0) (h0' : d' ≠ 0) (hs : (mant d).sign = (mant d').sign) (hf : fin d < fin d') : (mant (d + -d')).sign = -(mant d).sign := by
  have h := dcmp_fin h0' h0 hs.symm hf
  rw [hs, ← h, ← sgn_neg]
  congr 2
  rw [← Dyadic.toRat_inj]
  simp only [Dyadic.toRat_add, Dyadic.toRat_neg]
  grind
/-- How the program compares. -/
theorem dcmp_steps (d d' : Dyadic) :
    (Lib.compareInt (mant d).sign (mant d').sign ≠ 0 → Lib.compareInt (mant d).sign (mant d').sign = (mant (d + -d')).sign) ∧
    (Lib.compareInt (mant d).sign (mant d').sign = 0 → (mant d).sign = 0 → (mant (d + -d')).sign = 0) ∧
    (Lib.compareInt (mant d).sign (mant d').sign = 0 → (mant d).sign ≠ 0 → Lib.compareInt (fin d) (fin d') ≠ 0 → (mant d).sign * Lib.compareInt (fin d) (fin d') = (mant (d + -d')).sign) := by
  have hc : ∀ a b : Int, Lib.compareInt a b = 0 ↔ a = b := fun a b => by
    unfold Lib.compareInt
    split
    · constructor
      · intro h; cases h
      · intro h; omega
    · split
      · constructor
        · intro h; cases h
        · intro h; omega
      · constructor
        · intro _; omega
        · intro _; rfl
  refine ⟨fun h => (dcmp_sign fun e => h ((hc _ _).2 e)).symm, fun h h0 => ?_, fun h h0 hf => ?_⟩
  · have hs := (hc _ _).1 h
    have z : d = 0 := (mant_eq_zero d).1 (Int.sign_eq_zero_iff_zero.1 h0)
    have z' : d' = 0 := (mant_eq_zero d').1 (Int.sign_eq_zero_iff_zero.1 (hs ▸ h0))
    subst z
    subst z'
    rw [mant_eq_zero _ |>.2 (show (0 : Dyadic) + -0 = 0 by rfl)]
    rfl
  · have hs := (hc _ _).1 h
    have n : d ≠ 0 := fun e => h0 (by rw [e, mant_zero]; rfl)
    have n' : d' ≠ 0 := fun e => h0 (by rw [hs, e, mant_zero]; rfl)
    rcases Int.lt_trichotomy (fin d) (fin d') with hl | hl | hl
    · rw [dcmp_fin2 n n' hs hl, show Lib.compareInt (fin d) (fin d') = -1 by unfold Lib.compareInt; rw [if_pos hl]]
      omega
    · exact absurd ((hc _ _).2 hl) hf
    · rw [dcmp_fin n n' hs hl, cmpI_gt hl, Int.mul_one]
end Go.Proofs.YtbkbeglmfhaleaaGreatDoor
/-
The program's Cmp. Conditions: numbers of few digits; the library's tables are as its text lays them.
-/
set_option linter.unusedVariables false
set_option linter.unusedSimpArgs false
set_option linter.unnecessarySimpa false
namespace Go.Proofs.YtbkbeglmfhaleaaGreatDoor
open Go.RowKit
attribute [local go_sem ↓] Go.wp_at_zero Go.wp_at_succ

theorem mono_wv (z : Int) : Mono fun v W => WV W v z := fun _ _ _ h hb => WV.below h hb
theorem fin_wv {v : Value} {d : Dyadic} {w : World} (h : PV w v d) (hf : Fitp d) : Calls Tryz.prog 60 #[v] w fun e w' => ∃ u, e = .returned u ∧ WV w' u (fin d) ∧ Below w.heap.size w w' := by
  obtain ⟨A, n, c, A', n', c', rfl, hD⟩ := h
  refine (pend_any A n c A' n' c' d w hD hf).mono ?_
  rintro e w' ⟨B, m, k, rfl, h1, h2⟩
  exact ⟨_, rfl, ⟨B, m, k, rfl, h1⟩, h2⟩
theorem wcmp_v {v v' : Value} {x y : Int} {w : World} (h : WV w v x) (h' : WV w v' y) (hx : x.natAbs < Q) (hy : y.natAbs < Q) : Calls Tryz.prog 67 #[v, v'] w fun e w' => e = .returned (.int .i64 (Lib.compareInt x y)) ∧ Below w.heap.size w w' := by
  obtain ⟨A, n, c, rfl, h1⟩ := h
  obtain ⟨A', n', c', rfl, h2⟩ := h'
  exact (cmp_small A n c x A' n' c' y w h1 h2 hx hy).mono fun e w' hh => ⟨hh.1, hh.2.1⟩
theorem sgn_mul {a b r : Int} (h : a * b = r) (ha : -1 ≤ a ∧ a ≤ 1) (hb : -1 ≤ b ∧ b ≤ 1) : wrap64 (a * b) = r ∧ IntKind.i64.wrap (a * b) = r := by
  have : a * b = -1 ∨ a * b = 0 ∨ a * b = 1 := by
    rcases (show a = -1 ∨ a = 0 ∨ a = 1 by omega) with rfl | rfl | rfl <;> rcases (show b = -1 ∨ b = 0 ∨ b = 1 by omega) with rfl | rfl | rfl <;> simp
  have h9 : -1 ≤ r ∧ r ≤ 1 := by omega
  rw [h]
  constructor
  · unfold wrap64; omega
  · rw [IntWalk.i64_in _ (by omega)]
theorem cmpI_one (a b : Int) : -1 ≤ Lib.compareInt a b ∧ Lib.compareInt a b ≤ 1 := by
  unfold Lib.compareInt
  split <;> (try split) <;> omega
theorem sgn_one (a : Int) : -1 ≤ a.sign ∧ a.sign ≤ 1 := by
  rcases Int.lt_trichotomy a 0 with h | h | h
  · rw [Int.sign_eq_neg_one_of_neg h]; omega
  · subst h; decide
  · rw [Int.sign_eq_one_of_pos h]; omega

set_option maxRecDepth 100000 in
set_option maxHeartbeats 4000000 in
theorem pcmp_walk (x y : D4) (w : World) (hx : x.ok w) (hy : y.ok w) (K : Nat) (hK : K ≤ 134216000) (hk : Sz K x.d) (hk' : Sz K y.d) (hg : Glob w) :
    Calls Tryz.prog 28 #[x.val, y.val] w fun e w' => e = .returned (.int .i64 (mant (x.d + -y.d)).sign) ∧ Below w.heap.size w w' := by
  obtain ⟨hs1, hs2, hs3⟩ := dcmp_steps x.d y.d
  have HSx := Lib.hid (fun W v (h : PV W v x.d) => psign_v h)
  have HSy := Lib.hid (fun W v (h : PV W v y.d) => psign_v h)
  have HCm := Lib.hid (fun W => Tryz.cmp_Compare_int (mant x.d).sign (mant y.d).sign W)
  have HCr := Lib.hid (fun W v v' (h : WV W v (fin x.d)) (h' : WV W v' (fin y.d)) => wcmp_v h h' (small_q (Nat.le_trans hk.expo_.2 (by omega))) (small_q (Nat.le_trans hk'.expo_.2 (by omega))))
  have HFx := Lib.hid (hk.fitp (by omega))
  have HFy := Lib.hid (hk'.fitp (by omega))
  have HSb := Lib.hid (fun W v v' (h : PV W v x.d) (h' : PV W v' y.d) (hg : Glob W) => psub_v h h' K hK hk hk' hg)
  have HSd := Lib.hid (fun W v (h : PV W v (x.d + -y.d)) => psign_v h)
  have hm3 : ∀ r, Lib.compareInt (fin x.d) (fin y.d) = r → Lib.compareInt (mant x.d).sign (mant y.d).sign = 0 → (mant x.d).sign ≠ 0 → r ≠ 0 → wrap64 ((mant x.d).sign * r) = (mant (x.d + -y.d)).sign ∧ IntKind.i64.wrap ((mant x.d).sign * r) = (mant (x.d + -y.d)).sign := fun r hr h1 h2 h3 => by
    subst hr
    exact sgn_mul (hs3 h1 h2 h3) (sgn_one _) (cmpI_one _ _)
  have HX := Lib.hid hx
  have HY := Lib.hid hy
  have HG := Lib.hid hg
  clear hx hy hk hk' hg hs3
  obtain ⟨q, hq⟩ : ∃ q, (mant (x.d + -y.d)).sign = q := ⟨_, rfl⟩
  obtain ⟨c, hc⟩ : ∃ c, Lib.compareInt (mant x.d).sign (mant y.d).sign = c := ⟨_, rfl⟩
  obtain ⟨r, hr⟩ : ∃ r, Lib.compareInt (fin x.d) (fin y.d) = r := ⟨_, rfl⟩
  have hm4 := hm3 r hr
  rw [hq, hc] at hs1 hs2 hm4
  rw [hc] at HCm
  rw [hr] at HCr
  rw [hq] at HSd
  clear hm3
  obtain ⟨sx, hsx⟩ : ∃ sx, (mant x.d).sign = sx := ⟨_, rfl⟩
  obtain ⟨sy, hsy⟩ : ∃ sy, (mant y.d).sign = sy := ⟨_, rfl⟩
  rw [hsx] at HSx hs2 hm4
  rw [hsy] at HSy
  rw [hsx, hsy] at HCm
  rw [hq]
  clear hq hc hr hsx hsy
  obtain ⟨zz, hzz⟩ : ∃ zz, w.heap.size = zz := ⟨_, rfl⟩
  have HZl := Lib.hid hzz
  have hx0 := Blk.new_ w 37 #[.bool (ng (mant x.d)), .slice x.A x.n x.c, .bool (ng (expo x.d)), .slice x.A' x.n' x.c'] zz hzz
  have hy0 := Blk.new_ (w.alloc (.cells #[.bool (ng (mant x.d)), .slice x.A x.n x.c, .bool (ng (expo x.d)), .slice x.A' x.n' x.c'] 37)) 37 #[.bool (ng (mant y.d)), .slice y.A y.n y.c, .bool (ng (expo y.d)), .slice y.A' y.n' y.c'] (zz + 1) (by simp [hzz])
  have HX0 := Lib.hid (show PBx ((w.alloc (.cells #[.bool (ng (mant x.d)), .slice x.A x.n x.c, .bool (ng (expo x.d)), .slice x.A' x.n' x.c'] 37)).alloc (.cells #[.bool (ng (mant y.d)), .slice y.A y.n y.c, .bool (ng (expo y.d)), .slice y.A' y.n' y.c'] 37)) zz x.d from ⟨x, rfl, (HX.out.below below_one).below below_one, hx0.below below_one hx0.lt⟩)
  have HY0 := Lib.hid (show PBx ((w.alloc (.cells #[.bool (ng (mant x.d)), .slice x.A x.n x.c, .bool (ng (expo x.d)), .slice x.A' x.n' x.c'] 37)).alloc (.cells #[.bool (ng (mant y.d)), .slice y.A y.n y.c, .bool (ng (expo y.d)), .slice y.A' y.n' y.c'] 37)) (zz + 1) y.d from ⟨y, rfl, (HY.out.below below_one).below below_one, hy0⟩)
  have HB0 := Lib.hid (show Below zz w ((w.alloc (.cells #[.bool (ng (mant x.d)), .slice x.A x.n x.c, .bool (ng (expo x.d)), .slice x.A' x.n' x.c'] 37)).alloc (.cells #[.bool (ng (mant y.d)), .slice y.A y.n y.c, .bool (ng (expo y.d)), .slice y.A' y.n' y.c'] 37)) from by rw [← hzz]; exact below_al (below_al (Below.refl _ _)))
  have HP0 := Lib.hid ((HX.out.below (below_one (o := .cells #[.bool (ng (mant x.d)), .slice x.A x.n x.c, .bool (ng (expo x.d)), .slice x.A' x.n' x.c'] 37))).below (below_one (o := .cells #[.bool (ng (mant y.d)), .slice y.A y.n y.c, .bool (ng (expo y.d)), .slice y.A' y.n' y.c'] 37)))
  have HK0 := Lib.hid (show Blk ((w.alloc (.cells #[.bool (ng (mant x.d)), .slice x.A x.n x.c, .bool (ng (expo x.d)), .slice x.A' x.n' x.c'] 37)).alloc (.cells #[.bool (ng (mant y.d)), .slice y.A y.n y.c, .bool (ng (expo y.d)), .slice y.A' y.n' y.c'] 37)) zz 37 #[.bool (ng (mant x.d)), .slice x.A x.n x.c, .bool (ng (expo x.d)), .slice x.A' x.n' x.c'] from hx0.below below_one hx0.lt)
  clear hx0 hy0 HX HY
  unfold D4.val
  go_enter Tryz.func28, Tryz.ntmps28
  obtain ⟨k0, k1, k2, k3, _⟩ := cells4 (show Blk _ _ 37 #[.bool (ng (mant x.d)), .slice x.A x.n x.c, .bool (ng (expo x.d)), .slice x.A' x.n' x.c'] from HK0.out)
  go_wp2_with fail
  refine (HSx.out _ _ HP0.out.pv).mono ?_
  rintro e w1 ⟨rfl, hb⟩
  clear k0 k1 k2 k3
  have HX1 := Lib.hid (HX0.out.below hb)
  have HY1 := Lib.hid (HY0.out.below hb)
  have HB1 := Lib.hid (bz HZl.out HB0.out hb)
  clear hb
  obtain ⟨y', hy1, hy2, hy3⟩ := HY1.out
  obtain ⟨k0, k1, k2, k3, _⟩ := cells4 (show Blk _ _ 37 #[.bool (ng (mant y'.d)), .slice y'.A y'.n y'.c, .bool (ng (expo y'.d)), .slice y'.A' y'.n' y'.c'] from hy3)
  have HYp := Lib.hid (pv_eq hy2.pv hy1)
  clear hy1 hy2 hy3
  go_wp2_with fail
  refine (HSy.out _ _ HYp.out).mono ?_
  rintro e w2 ⟨rfl, hb⟩
  clear k0 k1 k2 k3
  have HX2 := Lib.hid (HX1.out.below hb)
  have HY2 := Lib.hid (HY1.out.below hb)
  have HB2 := Lib.hid (bz HZl.out HB1.out hb)
  clear hb
  go_wp2_with fail
  refine (HCm.out _).mono ?_
  rintro e w3 ⟨rfl, rfl⟩
  by_cases hc0 : c = 0
  · by_cases hx0 : sx = 0
    · have hq := hs2 hc0 hx0
      subst hc0
      subst hx0
      subst hq
      clear hs1 hs2 hm4
      go_wp2_with fail
      go_ret
      exact ⟨rfl, by rw [HZl.out]; exact HB2.out⟩
    · have hm5 := hm4 hc0 hx0
      subst hc0
      clear hs1 hs2 hm4
      go_wp2_with fail
      refine wp_region_fam [21, 22, 23, 24, 25, 7] [fun v W => PV W v (x.d), fun v W => WV W v (fin (x.d)), fun v W => PV W v (y.d), fun v W => WV W v (fin (y.d)), fun v _ => v = .int .i64 r, fun v _ => v = .int .i64 r]
        rfl (by kernel_rfl) (by kernel_rfl) (by decide) ⟨mono_pv _, mono_wv _, mono_pv _, mono_wv _, mono_eq _, mono_eq _, trivial⟩ ⟨?_, ?_, ?_, ?_, ?_, ?_, trivial⟩ ?_
      · intro s W hB hfr hdep
        have g2 : s 2 = .pointer (some ⟨zz, 0, none⟩) := hfr 2 (by decide)
        refine stepG_plain rfl ?_
        obtain ⟨p, pd, pok, gB⟩ := HX2.out.below hB
        obtain ⟨k0, k1, k2, k3, _⟩ := cells4 (show Blk W _ 37 #[.bool (ng (mant p.d)), .slice p.A p.n p.c, .bool (ng (expo p.d)), .slice p.A' p.n' p.c'] from gB)
        exact op_value p.val (by simp [D4.val, go_sem, evS, g2, k0, k1, k2, k3]) ⟨pv_eq pok.pv pd, Below.refl _ _⟩
      · intro s W hB hfr hdep
        have g21 : PV W (s 21) (x.d) := hdep 0 rfl
        refine stepG_plain rfl ?_
        exact op_call 60 #[s 21] (by simp [go_sem, evS]) (fin_wv g21 HFx.out)
      · intro s W hB hfr hdep
        have g3 : s 3 = .pointer (some ⟨zz + 1, 0, none⟩) := hfr 3 (by decide)
        refine stepG_plain rfl ?_
        obtain ⟨p, pd, pok, gB⟩ := HY2.out.below hB
        obtain ⟨k0, k1, k2, k3, _⟩ := cells4 (show Blk W _ 37 #[.bool (ng (mant p.d)), .slice p.A p.n p.c, .bool (ng (expo p.d)), .slice p.A' p.n' p.c'] from gB)
        exact op_value p.val (by simp [D4.val, go_sem, evS, g3, k0, k1, k2, k3]) ⟨pv_eq pok.pv pd, Below.refl _ _⟩
      · intro s W hB hfr hdep
        have g23 : PV W (s 23) (y.d) := hdep 2 rfl
        refine stepG_plain rfl ?_
        exact op_call 60 #[s 23] (by simp [go_sem, evS]) (fin_wv g23 HFy.out)
      · intro s W hB hfr hdep
        have g22 : (fun v W => WV W v (fin (x.d))) (s 22) W := hdep 1 rfl
        have g24 : (fun v W => WV W v (fin (y.d))) (s 24) W := hdep 3 rfl
        refine stepG_plain rfl ?_
        exact op_callv 67 #[s 22, s 24] _ (by simp [go_sem, evS]) (HCr.out _ _ _ g22 g24) (fun _ _ => rfl)
      · intro s W hB hfr hdep
        have g25 : s 25 = .int .i64 r := hdep 4 rfl
        refine stepG_plain rfl ?_
        exact op_value _ (by simp [go_sem, evS, g25]) ⟨rfl, Below.refl _ _⟩
      intro s we hall hbl
      have f7 : s 7 = .int .i64 r := hall 5 (by decide)
      clear hall
      have HBe := Lib.hid (bz HZl.out HB2.out hbl)
      have HXe := Lib.hid (HX2.out.below hbl)
      have HYe := Lib.hid (HY2.out.below hbl)
      clear hbl
      simp [setAll, f7]
      clear f7


      by_cases hr0 : r = 0
      · subst hr0
        clear hm5
        obtain ⟨x', hx1, hx2, hx3⟩ := HXe.out
        obtain ⟨k0, k1, k2, k3, _⟩ := cells4 (show Blk _ _ 37 #[.bool (ng (mant x'.d)), .slice x'.A x'.n x'.c, .bool (ng (expo x'.d)), .slice x'.A' x'.n' x'.c'] from hx3)
        obtain ⟨y2, hy1, hy2, hy3⟩ := HYe.out
        obtain ⟨l0, l1, l2, l3, _⟩ := cells4 (show Blk _ _ 37 #[.bool (ng (mant y2.d)), .slice y2.A y2.n y2.c, .bool (ng (expo y2.d)), .slice y2.A' y2.n' y2.c'] from hy3)
        have HXp := Lib.hid (pv_eq hx2.pv hx1)
        have HYq := Lib.hid (pv_eq hy2.pv hy1)
        have HGe := Lib.hid (HG.out.below (show Below w.heap.size w we from by rw [HZl.out]; exact HBe.out))
        clear hx1 hx2 hx3 hy1 hy2 hy3
        go_wp2_with fail
        refine (HSb.out _ _ _ HXp.out HYq.out HGe.out).mono ?_
        rintro e wf ⟨v, rfl, hv, hb⟩
        have HV := Lib.hid hv
        have HBf := Lib.hid (bz HZl.out HBe.out hb)
        clear hv hb k0 k1 k2 k3 l0 l1 l2 l3
        go_wp2_with fail
        refine (HSd.out _ _ HV.out).mono ?_
        rintro e wg ⟨rfl, hb⟩
        have HBg := Lib.hid (bz HZl.out HBf.out hb)
        clear hb
        go_wp2_with fail
        go_ret
        exact ⟨rfl, by rw [HZl.out]; exact HBg.out⟩
      · obtain ⟨hw1, hw2⟩ := hm5 hr0
        clear hm5
        go_wp2_with fail
        go_ret
        exact ⟨rfl, by rw [HZl.out]; exact HBe.out⟩
  · have hq := hs1 hc0
    clear hs1 hs2 hm4
    go_wp2_with fail
    go_ret
    exact ⟨rfl, by rw [HZl.out]; exact HB2.out⟩
theorem pcmp_v {v v' : Value} {d d' : Dyadic} {w : World} (h : PV w v d) (h' : PV w v' d') (K : Nat) (hK : K ≤ 134216000) (hk : Sz K d) (hk' : Sz K d') (hg : Glob w) :
    Calls Tryz.prog 28 #[v, v'] w fun e w' => e = .returned (.int .i64 (mant (d + -d')).sign) ∧ Below w.heap.size w w' := by
  obtain ⟨x, hx, rfl, rfl⟩ := h.d4
  obtain ⟨y, hy, rfl, rfl⟩ := h'.d4
  exact pcmp_walk x y w hx hy K hK hk hk' hg

end Go.Proofs.YtbkbeglmfhaleaaGreatDoor
