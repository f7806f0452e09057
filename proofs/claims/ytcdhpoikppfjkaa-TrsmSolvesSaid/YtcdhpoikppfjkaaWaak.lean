/-
At: a number of a table. Conditions: as each says.
-/
import Derived.Test.YtcdhpoikppfjkaaWaai
set_option linter.unusedVariables false
namespace Go.Proofs.Ytcdhpoikppfjkaa
open Go.RowKit
attribute [local go_sem ↓] Go.wp_at_zero Go.wp_at_succ

theorem rat_any (r k : Int) (g n c : Nat) (T : List Nat) (i j p : Nat) (w : World) (hB : Row w (some ⟨g, 0, none⟩) (f64s T)) (hT : T.length = n) (hp : p < n) (hn : n < 9223372036854775808) (he : (i : Int) * k + (j : Int) = (p : Int)) (hm : I64 ((i : Int) * k)) :
    Calls Try.prog 28 #[tbl r k g n c, .int .i64 i, .int .i64 j] w fun e w' => e = .returned (.float .f64 (T.getD p 0)) ∧ Below w.heap.size w w' := by
  unfold I64 at hm
  have hpT : p < T.length := by omega
  obtain ⟨b, o, hbo, hlt, hc⟩ := hB.at_ (f64s_get T p hpT)
  injection hbo with hbo
  injection hbo with e1 e2 _
  subst e1 e2
  rw [Nat.zero_add] at hc
  have hv : T.getD p 0 = T[p] := getD_of_lt hpT
  rw [hv]
  obtain ⟨v, hv2⟩ : ∃ v, T[p] = v := ⟨_, rfl⟩
  rw [hv2] at hc
  rw [hv2]
  have hc2 := cell_below hc (below_one (W := w) (o := .cells #[.int .i64 r, .int .i64 k, .slice (some ⟨g, 0, none⟩) n c] 31))
  have w1 : IntKind.i64.wrap ((i : Int) * k) = (i : Int) * k := wrapi (by omega) (by omega)
  have w2 : IntKind.i64.wrap (p : Int) = (p : Int) := wrapi (by omega) (by omega)
  have hpn : (p : Int) < (n : Int) := by omega
  have hp0 : (0 : Int) ≤ (p : Int) := by omega
  clear hv hv2 hpT hc hB hT hlt
  unfold tbl
  go_enter Try.func28, Try.ntmps28
  go_wp2_with fail
  go_ret
  exact ⟨rfl, (Below.refl w.heap.size w).alloc (Nat.le_refl _) _⟩
end Go.Proofs.Ytcdhpoikppfjkaa
/-
The document's Rows of a table. Conditions: the table has at most 2^40 numbers.
-/
set_option linter.unusedVariables false
namespace Go.Proofs.Ytcdhpoikppfjkaa
open Go.RowKit
attribute [local go_sem ↓] Go.wp_at_zero Go.wp_at_succ

theorem tab_inj {C a b a' b' : Nat} (hb : b < C) (hb' : b' < C) (h : a * C + b = a' * C + b') : a = a' ∧ b = b' := by
  have h1 : (a * C + b) % C = b := by rw [Nat.mul_add_mod_self_right, Nat.mod_eq_of_lt hb]
  have h2 : (a' * C + b') % C = b' := by rw [Nat.mul_add_mod_self_right, Nat.mod_eq_of_lt hb']
  have e : b = b' := by rw [← h1, h, h2]
  subst e
  have hm : a * C = a' * C := by omega
  exact ⟨Nat.eq_of_mul_eq_mul_right (by omega) hm, rfl⟩
/-- The first q columns have changed rows i and k. -/
def Half (T : List Nat) (i k R C q : Nat) (T' : List Nat) : Prop := T'.length = T.length ∧ ∀ a, a < R → ∀ b, b < C → T'.getD (a * C + b) 0 = if b < q then T.getD (sw i k a * C + b) 0 else T.getD (a * C + b) 0
theorem Half.zero (T : List Nat) (i k R C : Nat) : Half T i k R C 0 T := ⟨rfl, fun a _ b _ => by simp⟩
theorem Half.step {T T' : List Nat} {i k R C q : Nat} (h : Half T i k R C q T') (hi : i < R) (hk : k < R) (hq : q < C) (hT : T.length = R * C) :
    Half T i k R C (q + 1) ((T'.set (i * C + q) (T'.getD (k * C + q) 0)).set (k * C + q) (T'.getD (i * C + q) 0)) := by
  refine ⟨by rw [List.length_set, List.length_set]; exact h.1, fun a ha b hb => ?_⟩
  have hli := tab_lt hi hq
  have hlk := tab_lt hk hq
  have hx := h.2 i hi q hq
  have hy := h.2 k hk q hq
  rw [if_neg (by omega)] at hx hy
  have hl := h.1
  by_cases e : b = q
  · subst e
    rw [if_pos (by omega)]
    by_cases e1 : a = k
    · subst e1
      rw [getD_set_self (by rw [List.length_set]; omega), hx]
      have : sw i a a = i := by
        unfold sw
        by_cases h2 : a = i
        · rw [if_pos h2]; exact h2
        · rw [if_neg h2, if_pos rfl]
      rw [this]
    · rw [getD_set_ne _ (fun e2 => e1 (tab_inj hq hq e2).1.symm)]
      by_cases e2 : a = i
      · subst e2
        rw [getD_set_self (by omega), hy]
        have : sw a k a = k := by unfold sw; rw [if_pos rfl]
        rw [this]
      · rw [getD_set_ne _ (fun e3 => e2 (tab_inj hq hq e3).1.symm), h.2 a ha b hb, if_neg (by omega)]
        have : sw i k a = a := by unfold sw; rw [if_neg e2, if_neg e1]
        rw [this]
  · rw [getD_set_ne _ (fun e2 => e (tab_inj hq hb e2).2.symm), getD_set_ne _ (fun e2 => e (tab_inj hq hb e2).2.symm), h.2 a ha b hb]
    by_cases h2 : b < q
    · rw [if_pos h2, if_pos (by omega)]
    · rw [if_neg h2, if_neg (by omega)]

end Go.Proofs.Ytcdhpoikppfjkaa
/-
The document's Take of a table. Conditions: the table has at most 2^20 numbers.
-/
set_option linter.unusedVariables false
namespace Go.Proofs.Ytcdhpoikppfjkaa
open Go.RowKit
attribute [local go_sem ↓] Go.wp_at_zero Go.wp_at_succ

/-- The table's rows stand as the first q changes of the order have it. -/
def Prm (T : List Nat) (zs : List Int) (R C q : Nat) (T' : List Nat) : Prop := T'.length = T.length ∧ ∀ a, a < R → ∀ b, b < C → T'.getD (a * C + b) 0 = T.getD (prm zs q a * C + b) 0
theorem Prm.step {T T' T2 : List Nat} {zs : List Int} {R C q j : Nat} (h : Prm T zs R C q T') (h2 : Half T' q j R C C T2) (hq : q < R) (hj : j < R) (e : ∀ a, prm zs (q + 1) a = prm zs q (sw q j a)) : Prm T zs R C (q + 1) T2 :=
  ⟨h2.1.trans h.1, fun a ha b hb => by
    rw [h2.2 a ha b hb, if_pos hb, h.2 _ (sw_lt hq hj ha) b hb, e]⟩

end Go.Proofs.Ytcdhpoikppfjkaa
/-
The document's Into: a list with a table at a matrix' places. Conditions: the matrix is right, its list and the table have at most 2^20 numbers.
-/
set_option linter.unusedVariables false
set_option linter.unusedSimpArgs false
namespace Go.Proofs.Ytcdhpoikppfjkaa
open Go.RowKit
attribute [local go_sem ↓] Go.wp_at_zero Go.wp_at_succ

/-- The list has the table T at the matrix' first places, by rows, and is else as it was. -/
def Pim (l : List Nat) (o R C L : Nat) (T : Nat → Nat → Nat) (a b : Nat) (l' : List Nat) : Prop :=
  l'.length = l.length ∧ (∀ i, i < R → ∀ j, j < C → l'.getD (o + i + j * L) 0 = if i < a ∨ (i = a ∧ j < b) then T i j else l.getD (o + i + j * L) 0) ∧ ∀ x, (∀ i, i < R → ∀ j, j < C → x ≠ o + i + j * L) → l'.getD x 0 = l.getD x 0
theorem Pim.zero (l : List Nat) (o R C L : Nat) (T : Nat → Nat → Nat) : Pim l o R C L T 0 0 l := ⟨rfl, fun i _ j _ => by rw [if_neg (by omega)], fun _ _ => rfl⟩
theorem Pim.next {l l' : List Nat} {o R C L : Nat} {T : Nat → Nat → Nat} {a : Nat} (h : Pim l o R C L T a C l') : Pim l o R C L T (a + 1) 0 l' :=
  ⟨h.1, fun i hi j hj => by
    rw [h.2.1 i hi j hj]
    by_cases e : i < a ∨ (i = a ∧ j < C)
    · rw [if_pos e, if_pos (by omega)]
    · rw [if_neg e, if_neg (by omega)], h.2.2⟩
theorem Pim.done {l l' : List Nat} {o R C L : Nat} {T : Nat → Nat → Nat} (h : Pim l o R C L T R 0 l') : Img l o R C L T l' :=
  ⟨h.1, fun i hi j hj => by rw [h.2.1 i hi j hj, if_pos (.inl hi)], h.2.2⟩
theorem Pim.step {l l' : List Nat} {o R C L : Nat} {T : Nat → Nat → Nat} {a b : Nat} (h : Pim l o R C L T a b l') (hR : R ≤ L) (ha : a < R) (hb : b < C) (hP : o + a + b * L < l.length) : Pim l o R C L T a (b + 1) (l'.set (o + a + b * L) (T a b)) := by
  refine ⟨by rw [List.length_set]; exact h.1, fun i hi j hj => ?_, fun x hx => ?_⟩
  · by_cases e : i = a ∧ j = b
    · obtain ⟨rfl, rfl⟩ := e
      rw [getD_set_self (by rw [h.1]; exact hP), if_pos (by omega)]
    · rw [getD_set_ne _ (fun e2 => e (by
        have := spots_inj (L := L) (a := a) (b := b) (a' := i) (b' := j) (by omega) (by omega) (by omega)
        exact ⟨this.1.symm, this.2.symm⟩)), h.2.1 i hi j hj]
      by_cases e1 : i < a ∨ (i = a ∧ j < b)
      · rw [if_pos e1, if_pos (by omega)]
      · rw [if_neg e1, if_neg (by omega)]
  · rw [getD_set_ne _ (fun e => hx a ha b hb e.symm), h.2.2 x hx]
/-- What Into comes to. -/
def Intod (n : Nat) (l : List Nat) (o R C L : Nat) (T : List Nat) (w : World) (e : Ending) (w' : World) : Prop := ∃ g c' l', e = .returned (.slice (some ⟨g, 0, none⟩) n c') ∧ Own w' g l' ∧ Img l o R C L (fun a b => T.getD (a * C + b) 0) l' ∧ w.heap.size ≤ g ∧ Below w.heap.size w w'
set_option maxRecDepth 100000 in
set_option maxHeartbeats 2000000 in
theorem rinto_some (a : Addr) (n c : Nat) (l : List Nat) (o R C L gT N cT : Nat) (T : List Nat) (w : World) (hA : Row w (some a) (f64s l)) (hT : Row w (some ⟨gT, 0, none⟩) (f64s T)) (hl : l.length = n) (hn : n ≤ 1048576) (hTl : T.length = N) (hN : R * C = N) (hNb : N ≤ 1048576) (hRb : R < 1048576) (hCb : C < 1048576) (hgT : N ≠ 0 → gT < w.heap.size)
    (hL : 1 ≤ L) (hR : R ≤ L) (hr : R = 0 ∨ C = 0 ∨ o + (C - 1) * L + (R - 1) < n) :
    Calls Try.prog 15 #[mat (some a) n c o R C L, tbl R C gT N cT] w fun e w' => Intod n l o R C L T w e w' := by
  have HIn := Lib.hid (fun i j (hi : i < R) (hj : j < C) => show o + i + j * L < n from by
    have h1 : j * L ≤ (C - 1) * L := Nat.mul_le_mul_right _ (by omega)
    omega)
  have HI := Lib.hid (fun x q (hx : x < R) (hq : q < C) => show x * C + q < N ∧ I64 ((x : Int) * (C : Int)) ∧ (x : Int) * (C : Int) + (q : Int) = ((x * C + q : Nat) : Int) from by
    have h1 := tab_lt hx hq
    have e : (x : Int) * (C : Int) = ((x * C : Nat) : Int) := by simp
    rw [e]
    unfold I64
    omega)
  have HAt := Lib.hid (fun W (hB : Row W (some ⟨gT, 0, none⟩) (f64s T)) (x q : Nat) (hx : x < R) (hq : q < C) => rat_any R C gT N cT T x q (x * C + q) W hB hTl (HI.out x q hx hq).1 (by omega) (HI.out x q hx hq).2.2 (HI.out x q hx hq).2.1)
  have HTr := Lib.hid hT
  have HA := Lib.hid hA
  have Hl := Lib.hid hl
  have HRL := Lib.hid hR
  have HgT := Lib.hid hgT
  obtain ⟨i0, hi, hz0, hz1, hz2⟩ := fi0
  clear hT hgT hTl hN hr
  unfold mat tbl at *
  go_enter Try.func15, Try.ntmps15
  go_wp2_with (at_builtin; refine wpList_append_own _ rfl _ _ 22 rfl (w.heap.size + 1 + 1) 43 i0 (.float .f64 0) 1 8 Try.underlying22 hi hz0 hz1 hz2 rfl (by decide) _ _ _ rfl (own_empty_ _ _ (by simp)) a n c (f64s l) rfl (by simp [f64s, hl]) ?c1 (one_cells l) ?c3 ?c4 ?c5 ?_)
  case c1 => exact row_add (HA.out.below ((((Below.refl _ _).alloc (Nat.le_refl _) _).alloc (by simp) _).alloc (by simp; omega) _))
  case c3 => unfold maxLen; omega
  case c4 => omega
  case c5 => simp
  intro v' w' hown hgrow hne
  obtain ⟨g, c', rfl, hg, hc, hm, ho⟩ := own_of hown hne hl.symm
  have hO : Only (w.heap.size + 1 + 1) (((w.alloc (.cells #[.slice (some a) n c, .int .i64 o, .int .i64 R, .int .i64 C, .int .i64 L] 24)).alloc (.cells #[.int .i64 R, .int .i64 C, .slice (some ⟨gT, 0, none⟩) N cT] 31)).alloc (.cells #[] 43)) w' := hgrow
  have HB := Lib.hid (((((Below.refl w.heap.size w).alloc (Nat.le_refl _) (.cells #[.slice (some a) n c, .int .i64 o, .int .i64 R, .int .i64 C, .int .i64 L] 24)).alloc (by simp) (.cells #[.int .i64 R, .int .i64 C, .slice (some ⟨gT, 0, none⟩) N cT] 31)).alloc (by simp; omega) (.cells #[] 43)).grown hgrow (by simp; omega) (fun k hk => by simp [Value.ownBlock] at hk; omega))
  have HZ := Lib.hid (hO.blk (by omega) (((Blk.new w 24 #[.slice (some a) n c, .int .i64 o, .int .i64 R, .int .i64 C, .int .i64 L]).alloc (.cells #[.int .i64 R, .int .i64 C, .slice (some ⟨gT, 0, none⟩) N cT] 31)).alloc (.cells #[] 43)))
  have HX := Lib.hid (hO.blk (by omega) ((Blk.new_ (w.alloc (.cells #[.slice (some a) n c, .int .i64 o, .int .i64 R, .int .i64 C, .int .i64 L] 24)) 31 #[.int .i64 R, .int .i64 C, .slice (some ⟨gT, 0, none⟩) N cT] (w.heap.size + 1) (by simp)).alloc (.cells #[] 43)))
  have HO := Lib.hid ho
  clear ho hgrow hown hO hA hl
  generalize hzz : w.heap.size = z at *
  have Hz := Lib.hid hzz
  clear hzz
  go_wp2_with fail
  go_loopw [6] (fun i wr => ∃ (a1 : Nat) (l1 : List Nat), a1 ≤ R ∧ i = .int .i64 (a1 : Int) ∧ Hid (Pim l o R C L (fun a b => T.getD (a * C + b) 0) a1 0 l1 ∧ Own wr g l1 ∧ Blk wr z 24 #[.slice (some a) n c, .int .i64 o, .int .i64 R, .int .i64 C, .int .i64 L] ∧ Blk wr (z + 1) 31 #[.int .i64 R, .int .i64 C, .slice (some ⟨gT, 0, none⟩) N cT] ∧ Below z w wr)) (fun i _ => R - (intOf i).toNat)
  case atStart => exact ⟨0, l, Nat.zero_le _, rfl, Lib.hid ⟨Pim.zero _ _ _ _ _ _, HO.out, HZ.out, HX.out, HB.out⟩⟩
  case round =>
    obtain ⟨a1, l1, har, rfl, HS⟩ := hrel
    obtain ⟨d0, d1, d2⟩ := cells3v HS.out.2.2.2.1
    by_cases hlt : a1 < R
    · have har2 : (a1 : Int) < (R : Int) := by omega
      have ha1 : a1 + 1 ≤ 1048576 := by omega
      go_wp2_with fail
      clear d0 d1 d2
      go_loopw [7] (fun i wr => ∃ (b1 : Nat) (l1 : List Nat), b1 ≤ C ∧ i = .int .i64 (b1 : Int) ∧ Hid (Pim l o R C L (fun a b => T.getD (a * C + b) 0) a1 b1 l1 ∧ Own wr g l1 ∧ Blk wr z 24 #[.slice (some a) n c, .int .i64 o, .int .i64 R, .int .i64 C, .int .i64 L] ∧ Blk wr (z + 1) 31 #[.int .i64 R, .int .i64 C, .slice (some ⟨gT, 0, none⟩) N cT] ∧ Below z w wr)) (fun i _ => C - (intOf i).toNat)
      case atStart => exact ⟨0, l1, Nat.zero_le _, rfl, HS⟩
      case round =>
        obtain ⟨b1, l1, hbk, rfl, HS⟩ := hrel
        obtain ⟨d0, d1, d2⟩ := cells3v HS.out.2.2.2.1
        by_cases hlt2 : b1 < C
        · obtain ⟨c0, c1, c2, c3, c4⟩ := cells5 HS.out.2.2.1
          have hs := HIn.out a1 b1 hlt hlt2
          have hstep := HS.out.1.step HRL.out hlt hlt2 (by rw [Hl.out]; exact hs)
          have hPl : o + a1 + b1 * L < l1.length := by rw [HS.out.1.1, Hl.out]; exact hs
          have HAv := Lib.hid (fun W (hB : Row W (some ⟨gT, 0, none⟩) (f64s T)) => HAt.out W hB a1 b1 hlt hlt2)
          have hN0 : N ≠ 0 := by have := (HI.out a1 b1 hlt hlt2).1; omega
          have hgz : gT < z := HgT.out hN0
          obtain ⟨v, hv⟩ : ∃ v, T.getD (a1 * C + b1) 0 = v := ⟨_, rfl⟩
          obtain ⟨m, hm⟩ : ∃ m, b1 * L = m := ⟨_, rfl⟩
          obtain ⟨u, hu⟩ : ∃ u, o + a1 = u := ⟨_, rfl⟩
          have e1 : (b1 : Int) * (L : Int) = (m : Int) := by rw [← hm]; simp
          have e2 : (o : Int) + (a1 : Int) = (u : Int) := by omega
          obtain ⟨P, hPd⟩ : ∃ P, u + m = P := ⟨_, rfl⟩
          have e3 : (u : Int) + (m : Int) = (P : Int) := by omega
          rw [hm, hu, hPd] at hs hstep hPl
          simp only [hv] at hstep
          rw [hv] at HAv
          have hcP := HS.out.2.1.get P hPl
          have hfP := HS.out.2.1.frozen P
          generalize l1[P] = u0 at *
          have w1' : IntKind.i64.wrap (u : Int) = (u : Int) := wrapi (by omega) (by omega)
          have w2' : IntKind.i64.wrap (m : Int) = (m : Int) := wrapi (by omega) (by omega)
          have w3' : IntKind.i64.wrap (P : Int) = (P : Int) := wrapi (by omega) (by omega)
          have e4 : (P : Int) < (n : Int) := by omega
          have e5 : (b1 : Int) < (C : Int) := by omega
          have hb1 : b1 + 1 ≤ 1048576 := by omega
          have HStep := Lib.hid hstep
          have HPl := Lib.hid hPl
          have HM0 := Lib.hid (Mid.start (s' := upd (fun _ => l1) g (((fun _ => l1) g).set P v)) (has_one HS.out.2.1).drew (Chg.refl [g] wr).drew)
          have HTw := Lib.hid (fun W (hc : Chg [g] wr W) => hc.row (A := some ⟨gT, 0, none⟩) (fun b x e => by injection e with e; injection e with e _; subst e; rw [List.mem_singleton]; omega) (HTr.out.below (show Below w.heap.size w wr by rw [Hz.out]; exact HS.out.2.2.2.2)))
          have HG1 := Lib.hid (show g ∈ [g] by simp)
          have hzg : z ≠ g := by omega
          have hzg1 : z + 1 ≠ g := by omega
          have HZg := Lib.hid (show w.heap.size ≤ g by rw [Hz.out]; omega)
          have HNg := Lib.hid (show z ∉ [g] ∧ z + 1 ∉ [g] by simp; omega)
          clear hs hstep hPl hv hm hu hPd hcP hfP hN0 hgz
          go_wp2_with fail
          go_region_held3 (fun w' => w'.cell? ⟨z, 0, none⟩ = some (.slice (some a) n c) ∧ w'.cell? ⟨z, 1, none⟩ = some (.int .i64 o) ∧ w'.cell? ⟨z, 2, none⟩ = some (.int .i64 R) ∧ w'.cell? ⟨z, 3, none⟩ = some (.int .i64 C) ∧ w'.cell? ⟨z, 4, none⟩ = some (.int .i64 L) ∧ w'.cell? ⟨z + 1, 0, none⟩ = some (.int .i64 R) ∧ w'.cell? ⟨z + 1, 1, none⟩ = some (.int .i64 C) ∧ w'.cell? ⟨z + 1, 2, none⟩ = some (.slice (some ⟨gT, 0, none⟩) N cT) ∧ Mid [g] wr (fun _ => l1) (upd (fun _ => l1) g (((fun _ => l1) g).set P v)) w')
            (first | exact ⟨c0, c1, c2, c3, c4, d0, d1, d2, HM0.out⟩ | exact heldQ8 ‹_ ∧ _ ∧ _ ∧ _ ∧ _ ∧ _ ∧ _ ∧ _ ∧ Mid _ _ _ _ _› hbA (fun k => k.nxt hbA) | exact heldS8 _ ‹_ ∧ _ ∧ _ ∧ _ ∧ _ ∧ _ ∧ _ ∧ _ ∧ Mid _ _ _ _ _› (fun k => k.stored HG1.out HPl.out) (fun e => hzg e.1) (fun e => hzg e.1) (fun e => hzg e.1) (fun e => hzg e.1) (fun e => hzg e.1) (fun e => hzg1 e.1) (fun e => hzg1 e.1) (fun e => hzg1 e.1))
            (first
              | (go_at_call 28; refine (HAv.out _ (HTw.out _ ((‹_ ∧ _ ∧ _ ∧ _ ∧ _ ∧ _ ∧ _ ∧ _ ∧ Mid _ _ _ _ _›).2.2.2.2.2.2.2.2).1)).mono ?_; rintro e1 wA ⟨rfl, hbA⟩; obtain ⟨u9, r0, r1⟩ := ((‹_ ∧ _ ∧ _ ∧ _ ∧ _ ∧ _ ∧ _ ∧ _ ∧ Mid _ _ _ _ _›).2.2.2.2.2.2.2.2).there HG1.out HPl.out; have r2 := cell_below r0 hbA; have r3 := (hbA.frozen (p := ⟨g, P, none⟩) (block_lt r0)).trans r1; clear r0 r1; skip))
          obtain ⟨hs2, hc2⟩ := ((‹_ ∧ _ ∧ _ ∧ _ ∧ _ ∧ _ ∧ _ ∧ _ ∧ Mid _ _ _ _ _›).2.2.2.2.2.2.2.2).done HG1.out HPl.out r2
          have HS2 := Lib.hid (show Own _ g (l1.set P v) by have h := hs2 g HG1.out; rw [upd_self] at h; exact h)
          have HC2 := Lib.hid hc2
          have HZ2 := Lib.hid (hc2.blk HNg.out.1 HS.out.2.2.1)
          have HX2 := Lib.hid (hc2.blk HNg.out.2 HS.out.2.2.2.1)
          have HB2 := Lib.hid (show Below z w _ from hc2.below HS.out.2.2.2.2 (Nat.le_of_lt HS.out.2.2.1.lt) (fun x hx => by rw [List.mem_singleton] at hx; omega))
          clear hs2 hc2 c0 c1 c2 c3 c4 d0 d1 d2 r2 r3
          go_wp2_with fail
          go_roundw
          case rel => exact ⟨b1 + 1, l1.set P v, by omega, by go_num, Lib.hid ⟨HStep.out, HS2.out, HZ2.out, HX2.out, HB2.out⟩⟩
          case measure => simp [intOf]; omega
        · obtain rfl : b1 = C := by omega
          have hbb : ¬ (b1 : Int) < (b1 : Int) := by omega
          go_wp2_with fail
          go_roundw
          case rel => exact ⟨a1 + 1, l1, by omega, by go_num, Lib.hid ⟨HS.out.1.next, HS.out.2⟩⟩
          case measure => simp [intOf]; omega
    · obtain rfl : a1 = R := by omega
      have hbb : ¬ (a1 : Int) < (a1 : Int) := by omega
      go_wp2_with fail
      go_ret
      exact ⟨g, c', l1, rfl, HS.out.2.1, HS.out.1.done, by have := Hz.out; omega, by rw [Hz.out]; exact HS.out.2.2.2.2⟩
set_option maxRecDepth 100000 in
set_option maxHeartbeats 2000000 in
theorem rinto_nil (c : Nat) (l : List Nat) (o R C L gT N cT : Nat) (T : List Nat) (w : World) (hA : Row w none (f64s l)) (hT : Row w (some ⟨gT, 0, none⟩) (f64s T)) (hl : l.length = 0) (hTl : T.length = N) (hN : R * C = N) (hNb : N ≤ 1048576) (hRb : R < 1048576) (hCb : C < 1048576) (hgT : N ≠ 0 → gT < w.heap.size)
    (hL : 1 ≤ L) (hR : R ≤ L) (hr : R = 0 ∨ C = 0 ∨ o + (C - 1) * L + (R - 1) < 0) :
    Calls Try.prog 15 #[mat none 0 c o R C L, tbl R C gT N cT] w fun e w' => Intod 0 l o R C L T w e w' := by
  have HIn := Lib.hid (fun i j (hi : i < R) (hj : j < C) => show o + i + j * L < 0 from by
    have h1 : j * L ≤ (C - 1) * L := Nat.mul_le_mul_right _ (by omega)
    omega)
  have HI := Lib.hid (fun x q (hx : x < R) (hq : q < C) => show x * C + q < N ∧ I64 ((x : Int) * (C : Int)) ∧ (x : Int) * (C : Int) + (q : Int) = ((x * C + q : Nat) : Int) from by
    have h1 := tab_lt hx hq
    have e : (x : Int) * (C : Int) = ((x * C : Nat) : Int) := by simp
    rw [e]
    unfold I64
    omega)
  have HAt := Lib.hid (fun W (hB : Row W (some ⟨gT, 0, none⟩) (f64s T)) (x q : Nat) (hx : x < R) (hq : q < C) => rat_any R C gT N cT T x q (x * C + q) W hB hTl (HI.out x q hx hq).1 (by omega) (HI.out x q hx hq).2.2 (HI.out x q hx hq).2.1)
  have HTr := Lib.hid hT
  have HA := Lib.hid hA
  have Hl := Lib.hid hl
  have HRL := Lib.hid hR
  have HgT := Lib.hid hgT
  clear hT hgT hTl hN hr
  unfold mat tbl at *
  go_enter Try.func15, Try.ntmps15
  go_wp2_with (at_builtin; refine wpList_append_nil _ rfl _ _ rfl rfl _ _ rfl rfl ?_)
  intro w' g c' hw' hg hc'
  have hl0 : l = [] := List.length_eq_zero_iff.1 hl
  have HB := Lib.hid (show Below w.heap.size w w' by rw [hw']; exact (((Below.refl w.heap.size w).alloc (Nat.le_refl _) (.cells #[.slice none 0 c, .int .i64 o, .int .i64 R, .int .i64 C, .int .i64 L] 24)).alloc (by simp) (.cells #[.int .i64 R, .int .i64 C, .slice (some ⟨gT, 0, none⟩) N cT] 31)).alloc (by simp; omega) (.cells #[] 43))
  have HZ := Lib.hid (show Blk w' w.heap.size 24 #[.slice none 0 c, .int .i64 o, .int .i64 R, .int .i64 C, .int .i64 L] by rw [hw']; exact ((Blk.new w 24 #[.slice none 0 c, .int .i64 o, .int .i64 R, .int .i64 C, .int .i64 L]).alloc (.cells #[.int .i64 R, .int .i64 C, .slice (some ⟨gT, 0, none⟩) N cT] 31)).alloc (.cells #[] 43))
  have HX := Lib.hid (show Blk w' (w.heap.size + 1) 31 #[.int .i64 R, .int .i64 C, .slice (some ⟨gT, 0, none⟩) N cT] by rw [hw']; exact (Blk.new_ (w.alloc (.cells #[.slice none 0 c, .int .i64 o, .int .i64 R, .int .i64 C, .int .i64 L] 24)) 31 #[.int .i64 R, .int .i64 C, .slice (some ⟨gT, 0, none⟩) N cT] (w.heap.size + 1) (by simp)).alloc (.cells #[] 43))
  have HO := Lib.hid (show Own w' g l by rw [hw', hl0]; exact ⟨#[], Blk.new_ _ _ _ _ (by simp; omega), rfl⟩)
  have hg : w.heap.size + 1 + 1 ≤ g := by omega
  clear hw' hc' hA hl hl0
  generalize hzz : w.heap.size = z at *
  have Hz := Lib.hid hzz
  clear hzz
  go_wp2_with fail
  go_loopw [6] (fun i wr => ∃ (a1 : Nat) (l1 : List Nat), a1 ≤ R ∧ i = .int .i64 (a1 : Int) ∧ Hid (Pim l o R C L (fun a b => T.getD (a * C + b) 0) a1 0 l1 ∧ Own wr g l1 ∧ Blk wr z 24 #[.slice none 0 c, .int .i64 o, .int .i64 R, .int .i64 C, .int .i64 L] ∧ Blk wr (z + 1) 31 #[.int .i64 R, .int .i64 C, .slice (some ⟨gT, 0, none⟩) N cT] ∧ Below z w wr)) (fun i _ => R - (intOf i).toNat)
  case atStart => exact ⟨0, l, Nat.zero_le _, rfl, Lib.hid ⟨Pim.zero _ _ _ _ _ _, HO.out, HZ.out, HX.out, HB.out⟩⟩
  case round =>
    obtain ⟨a1, l1, har, rfl, HS⟩ := hrel
    obtain ⟨d0, d1, d2⟩ := cells3v HS.out.2.2.2.1
    by_cases hlt : a1 < R
    · have har2 : (a1 : Int) < (R : Int) := by omega
      have ha1 : a1 + 1 ≤ 1048576 := by omega
      go_wp2_with fail
      clear d0 d1 d2
      go_loopw [7] (fun i wr => ∃ (b1 : Nat) (l1 : List Nat), b1 ≤ C ∧ i = .int .i64 (b1 : Int) ∧ Hid (Pim l o R C L (fun a b => T.getD (a * C + b) 0) a1 b1 l1 ∧ Own wr g l1 ∧ Blk wr z 24 #[.slice none 0 c, .int .i64 o, .int .i64 R, .int .i64 C, .int .i64 L] ∧ Blk wr (z + 1) 31 #[.int .i64 R, .int .i64 C, .slice (some ⟨gT, 0, none⟩) N cT] ∧ Below z w wr)) (fun i _ => C - (intOf i).toNat)
      case atStart => exact ⟨0, l1, Nat.zero_le _, rfl, HS⟩
      case round =>
        obtain ⟨b1, l1, hbk, rfl, HS⟩ := hrel
        obtain ⟨d0, d1, d2⟩ := cells3v HS.out.2.2.2.1
        by_cases hlt2 : b1 < C
        · exact absurd (HIn.out a1 b1 hlt hlt2) (by omega)
        · obtain rfl : b1 = C := by omega
          have hbb : ¬ (b1 : Int) < (b1 : Int) := by omega
          go_wp2_with fail
          go_roundw
          case rel => exact ⟨a1 + 1, l1, by omega, by go_num, Lib.hid ⟨HS.out.1.next, HS.out.2⟩⟩
          case measure => simp [intOf]; omega
    · obtain rfl : a1 = R := by omega
      have hbb : ¬ (a1 : Int) < (a1 : Int) := by omega
      go_wp2_with fail
      go_ret
      exact ⟨g, c', l1, by first | rfl | simp, HS.out.2.1, HS.out.1.done, by have := Hz.out; omega, by rw [Hz.out]; exact HS.out.2.2.2.2⟩
theorem rinto_any (A : Option Addr) (n c : Nat) (l : List Nat) (o R C L gT N cT : Nat) (T : List Nat) (w : World) (hA : Row w A (f64s l)) (hT : Row w (some ⟨gT, 0, none⟩) (f64s T)) (hl : l.length = n) (hn : n ≤ 1048576) (hTl : T.length = N) (hN : R * C = N) (hNb : N ≤ 1048576) (hRb : R < 1048576) (hCb : C < 1048576) (hgT : N ≠ 0 → gT < w.heap.size)
    (hL : 1 ≤ L) (hR : R ≤ L) (hr : R = 0 ∨ C = 0 ∨ o + (C - 1) * L + (R - 1) < n) :
    Calls Try.prog 15 #[mat A n c o R C L, tbl R C gT N cT] w fun e w' => Intod n l o R C L T w e w' := by
  cases A with
  | some a => exact rinto_some a n c l o R C L gT N cT T w hA hT hl hn hTl hN hNb hRb hCb hgT hL hR hr
  | none =>
    rcases hA with h | ⟨b, o, h, _⟩
    · obtain rfl : l = [] := by simpa [f64s] using h
      obtain rfl : n = 0 := hl.symm
      exact rinto_nil c [] o R C L gT N cT T w (.inl rfl) hT rfl hTl hN hNb hRb hCb hgT hL hR hr
    · cases h
end Go.Proofs.Ytcdhpoikppfjkaa
