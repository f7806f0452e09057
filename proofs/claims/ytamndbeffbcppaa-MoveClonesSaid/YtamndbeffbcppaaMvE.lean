/-
Swap: numbers that change places. Conditions: the vectors' lists are the call's own, or the caller's.
-/
import Derived.Test.YtamndbeffbcppaaMvD
import Derived.BigRegion
set_option linter.unusedVariables false
namespace Go.Proofs.Ytamndbeffbcppaa
open Go.RowKit
attribute [local go_sem ↓] Go.wp_at_zero Go.wp_at_succ
theorem heldQ8 {W w' : World} {b0 o0 b1 o1 b2 o2 b3 o3 b4 o4 b5 o5 b6 o6 b7 o7 : Nat} {v0 v1 v2 v3 v4 v5 v6 v7 : Value} {R : World → Prop} (h : W.cell? ⟨b0, o0, none⟩ = some v0 ∧ W.cell? ⟨b1, o1, none⟩ = some v1 ∧ W.cell? ⟨b2, o2, none⟩ = some v2 ∧ W.cell? ⟨b3, o3, none⟩ = some v3 ∧ W.cell? ⟨b4, o4, none⟩ = some v4 ∧ W.cell? ⟨b5, o5, none⟩ = some v5 ∧ W.cell? ⟨b6, o6, none⟩ = some v6 ∧ W.cell? ⟨b7, o7, none⟩ = some v7 ∧ R W) (hb : Below W.heap.size W w') (hR : R W → R w') :
    w'.cell? ⟨b0, o0, none⟩ = some v0 ∧ w'.cell? ⟨b1, o1, none⟩ = some v1 ∧ w'.cell? ⟨b2, o2, none⟩ = some v2 ∧ w'.cell? ⟨b3, o3, none⟩ = some v3 ∧ w'.cell? ⟨b4, o4, none⟩ = some v4 ∧ w'.cell? ⟨b5, o5, none⟩ = some v5 ∧ w'.cell? ⟨b6, o6, none⟩ = some v6 ∧ w'.cell? ⟨b7, o7, none⟩ = some v7 ∧ R w' :=
  ⟨cell_below h.1 hb, cell_below h.2.1 hb, cell_below h.2.2.1 hb, cell_below h.2.2.2.1 hb, cell_below h.2.2.2.2.1 hb, cell_below h.2.2.2.2.2.1 hb, cell_below h.2.2.2.2.2.2.1 hb, cell_below h.2.2.2.2.2.2.2.1 hb, hR h.2.2.2.2.2.2.2.2⟩
theorem heldS8 {W : World} {b0 o0 b1 o1 b2 o2 b3 o3 b4 o4 b5 o5 b6 o6 b7 o7 g j : Nat} {v0 v1 v2 v3 v4 v5 v6 v7 : Value} {R : World → Prop} (u : Value) (h : W.cell? ⟨b0, o0, none⟩ = some v0 ∧ W.cell? ⟨b1, o1, none⟩ = some v1 ∧ W.cell? ⟨b2, o2, none⟩ = some v2 ∧ W.cell? ⟨b3, o3, none⟩ = some v3 ∧ W.cell? ⟨b4, o4, none⟩ = some v4 ∧ W.cell? ⟨b5, o5, none⟩ = some v5 ∧ W.cell? ⟨b6, o6, none⟩ = some v6 ∧ W.cell? ⟨b7, o7, none⟩ = some v7 ∧ R W) (hR : R W → R (W.setCell ⟨g, j, none⟩ u)) (n0 : ¬ (b0 = g ∧ o0 = j)) (n1 : ¬ (b1 = g ∧ o1 = j)) (n2 : ¬ (b2 = g ∧ o2 = j)) (n3 : ¬ (b3 = g ∧ o3 = j)) (n4 : ¬ (b4 = g ∧ o4 = j)) (n5 : ¬ (b5 = g ∧ o5 = j)) (n6 : ¬ (b6 = g ∧ o6 = j)) (n7 : ¬ (b7 = g ∧ o7 = j)) :
    (W.setCell ⟨g, j, none⟩ u).cell? ⟨b0, o0, none⟩ = some v0 ∧ (W.setCell ⟨g, j, none⟩ u).cell? ⟨b1, o1, none⟩ = some v1 ∧ (W.setCell ⟨g, j, none⟩ u).cell? ⟨b2, o2, none⟩ = some v2 ∧ (W.setCell ⟨g, j, none⟩ u).cell? ⟨b3, o3, none⟩ = some v3 ∧ (W.setCell ⟨g, j, none⟩ u).cell? ⟨b4, o4, none⟩ = some v4 ∧ (W.setCell ⟨g, j, none⟩ u).cell? ⟨b5, o5, none⟩ = some v5 ∧ (W.setCell ⟨g, j, none⟩ u).cell? ⟨b6, o6, none⟩ = some v6 ∧ (W.setCell ⟨g, j, none⟩ u).cell? ⟨b7, o7, none⟩ = some v7 ∧ R (W.setCell ⟨g, j, none⟩ u) :=
  ⟨(cell_set2 n0 u).trans h.1, (cell_set2 n1 u).trans h.2.1, (cell_set2 n2 u).trans h.2.2.1, (cell_set2 n3 u).trans h.2.2.2.1, (cell_set2 n4 u).trans h.2.2.2.2.1, (cell_set2 n5 u).trans h.2.2.2.2.2.1, (cell_set2 n6 u).trans h.2.2.2.2.2.2.1, (cell_set2 n7 u).trans h.2.2.2.2.2.2.2.1, hR h.2.2.2.2.2.2.2.2⟩

theorem mswap_err (g g' c c' : Nat) (l l' : List Nat) (n n' : Nat) (off k inc off' k' inc' : Int) (w : World) (hO : Own w g l) (hO' : Own w g' l') (hln : l.length = n) (hln' : l'.length = n') (hn : n < 9223372036854775808) (hn' : n' < 9223372036854775808)
    (ho : I64 off) (hk : I64 k) (hi : I64 inc) (ho' : I64 off') (hk' : I64 k') (hi' : I64 inc') (p : Int) (hp : pairI (decide (g = g')) n off k inc n' off' k' inc' = p) (hp0 : p ≠ 0) :
    Calls Try.prog 41 #[vec (some ⟨g, 0, none⟩) n c off k inc, vec (some ⟨g', 0, none⟩) n' c' off' k' inc'] w fun e w' => e = .returned (.int .i64 p) ∧ Below w.heap.size w w' := by
  have HP := Lib.hid (fun W (h : Below w.heap.size w W) => pair_any g g' c c' l l' n n' off k inc off' k' inc' W (hO.nxt h) (hO'.nxt h) hln hln' hn hn' ho hk hi ho' hk' hi')
  rw [hp] at HP
  have hp1 : (p == 0) = false := by simp [hp0]
  clear hO hO' hln hln' hn hn' ho hk hi ho' hk' hi' hp
  unfold vec at *
  go_enter Try.func41, Try.ntmps41
  have HBl := Lib.hid (((Below.refl w.heap.size w).alloc (Nat.le_refl _) (.cells #[.slice (some ⟨g, 0, none⟩) n c, .int .i64 off, .int .i64 k, .int .i64 inc] 45)).alloc (by simp) (.cells #[.slice (some ⟨g', 0, none⟩) n' c', .int .i64 off', .int .i64 k', .int .i64 inc'] 45))
  go_wp2_with fail
  refine (HP.out _ HBl.out).mono ?_
  rintro e w1 ⟨rfl, hb1⟩
  have HB1 := Lib.hid (HBl.out.trans (hb1.mono HBl.out.size))
  clear hb1
  go_wp2_with fail
  go_ret
  exact ⟨rfl, HB1.out⟩

set_option maxHeartbeats 1000000 in
theorem mswap_ok (G : List Nat) (s : Nat → List Nat) (g g' c c' n n' o i o' i' K : Nat) (w : World) (hH : Has w G s) (hg : g ∈ G) (hg' : g' ∈ G) (hln : (s g).length = n) (hln' : (s g').length = n') (hn : n < 9223372036854775808) (hn' : n' < 9223372036854775808)
    (hb : o < 9223372036854775808 ∧ i < 9223372036854775808 ∧ o' < 9223372036854775808 ∧ i' < 9223372036854775808 ∧ K < 9223372036854775808) (hi : 1 ≤ i) (hi' : 1 ≤ i') (hr : K = 0 ∨ o + (K - 1) * i < n) (hr' : K = 0 ∨ o' + (K - 1) * i' < n')
    (hm : g = g' → ∀ a, a < K → ∀ b, b < K → o + a * i ≠ o' + b * i') (hp : pairI (decide (g = g')) n o K i n' o' K i' = 0) :
    Calls Try.prog 41 #[vec (some ⟨g, 0, none⟩) n c o K i, vec (some ⟨g', 0, none⟩) n' c' o' K i'] w fun e w' => e = .returned (.int .i64 0) ∧ Has w' G (swapd s g o i g' o' i' K K) ∧ Chg G w w' := by
  have HP := Lib.hid (fun W (h : Below w.heap.size w W) => pair_any g g' c c' (s g) (s g') n n' o K i o' K i' W ((hH g hg).nxt h) ((hH g' hg').nxt h) hln hln' hn hn' (by unfold I64; omega) (by unfold I64; omega) (by unfold I64; omega) (by unfold I64; omega) (by unfold I64; omega) (by unfold I64; omega))
  rw [hp] at HP
  have HPl := Lib.hid (fun W (A : Option Addr) (nn cc oo ii a : Nat) (h : a < K ∧ ((oo = o ∧ ii = i) ∨ (oo = o' ∧ ii = i'))) => mplace_any A nn cc oo K ii a ((oo + a * ii : Nat) : Int) W (by simp) (by
    have h1 : a * i ≤ (K - 1) * i := Nat.mul_le_mul_right _ (by omega)
    have h2 : a * i' ≤ (K - 1) * i' := Nat.mul_le_mul_right _ (by omega)
    have e : ((a : Int) * (ii : Int)) = ((a * ii : Nat) : Int) := by simp
    rw [e]; unfold I64
    rcases h.2 with ⟨rfl, rfl⟩ | ⟨rfl, rfl⟩ <;> omega) (by
    have h1 : a * i ≤ (K - 1) * i := Nat.mul_le_mul_right _ (by omega)
    have h2 : a * i' ≤ (K - 1) * i' := Nat.mul_le_mul_right _ (by omega)
    unfold I64
    rcases h.2 with ⟨rfl, rfl⟩ | ⟨rfl, rfl⟩ <;> omega))
  have HH := Lib.hid hH
  have HGl := Lib.hid (fun x (hx : x ∈ G) => hH.lt hx)
  have Hg := Lib.hid hg
  have Hg' := Lib.hid hg'
  have Hl := Lib.hid hln
  have Hl' := Lib.hid hln'
  have HM := Lib.hid hm
  have HR := Lib.hid (fun a (h : a < K) => show o + a * i < n from by
    have h1 : a * i ≤ (K - 1) * i := Nat.mul_le_mul_right _ (by omega)
    omega)
  have HR' := Lib.hid (fun a (h : a < K) => show o' + a * i' < n' from by
    have h1 : a * i' ≤ (K - 1) * i' := Nat.mul_le_mul_right _ (by omega)
    omega)
  have hKb := hb.2.2.2.2
  have Hi := Lib.hid hi
  have Hi' := Lib.hid hi'
  have Hn := Lib.hid hn
  have Hn' := Lib.hid hn'
  have hgz := hH.lt hg
  have hgz' := hH.lt hg'
  clear hH hg hg' hln hln' hn hn' hb hi hi' hr hr' hm hp
  unfold vec at *
  go_enter Try.func41, Try.ntmps41
  have HBl := Lib.hid (((Below.refl w.heap.size w).alloc (Nat.le_refl _) (.cells #[.slice (some ⟨g, 0, none⟩) n c, .int .i64 o, .int .i64 K, .int .i64 i] 45)).alloc (by simp) (.cells #[.slice (some ⟨g', 0, none⟩) n' c', .int .i64 o', .int .i64 K, .int .i64 i'] 45))
  have HZ0 := Lib.hid ((Blk.new w 45 #[.slice (some ⟨g, 0, none⟩) n c, .int .i64 o, .int .i64 K, .int .i64 i]).alloc (.cells #[.slice (some ⟨g', 0, none⟩) n' c', .int .i64 o', .int .i64 K, .int .i64 i'] 45))
  have HZ1 := Lib.hid (Blk.new_ (w.alloc (.cells #[.slice (some ⟨g, 0, none⟩) n c, .int .i64 o, .int .i64 K, .int .i64 i] 45)) 45 #[.slice (some ⟨g', 0, none⟩) n' c', .int .i64 o', .int .i64 K, .int .i64 i'] (w.heap.size + 1) (by simp))
  go_wp2_with fail
  refine (HP.out _ HBl.out).mono ?_
  rintro e w1 ⟨rfl, hb1⟩
  have HB1 := Lib.hid (HBl.out.trans (hb1.mono HBl.out.size))
  have HZ2 := Lib.hid (HZ0.out.nxt hb1)
  have HZ3 := Lib.hid (HZ1.out.nxt hb1)
  clear hb1
  obtain ⟨c0, c1, c2, c3⟩ := cells4w HZ2.out
  obtain ⟨d0, d1, d2, d3⟩ := cells4w HZ3.out
  go_wp2_with fail
  generalize hz : w.heap.size = z at *
  have Hz := Lib.hid hz
  clear hz
  go_loopw [17] (fun a wr => ∃ q : Nat, q ≤ K ∧ a = .int .i64 q ∧ wr.cell? ⟨z, 0, none⟩ = some (.slice (some ⟨g, 0, none⟩) n c) ∧ wr.cell? ⟨z, 1, none⟩ = some (.int .i64 o) ∧ wr.cell? ⟨z, 2, none⟩ = some (.int .i64 K) ∧ wr.cell? ⟨z, 3, none⟩ = some (.int .i64 i) ∧ wr.cell? ⟨z + 1, 0, none⟩ = some (.slice (some ⟨g', 0, none⟩) n' c') ∧ wr.cell? ⟨z + 1, 1, none⟩ = some (.int .i64 o') ∧ wr.cell? ⟨z + 1, 2, none⟩ = some (.int .i64 K) ∧ wr.cell? ⟨z + 1, 3, none⟩ = some (.int .i64 i') ∧ Has wr G (swapd s g o i g' o' i' K q) ∧ Chg G w wr) (fun a _ => K - (intOf a).toNat)
  case atStart => exact ⟨0, Nat.zero_le _, rfl, c0, c1, c2, c3, d0, d1, d2, d3, by
    rw [swapd_zero]; exact HH.out.nxt (by rw [Hz.out]; exact HB1.out), .of_below (by rw [Hz.out]; exact HB1.out)⟩
  case round =>
    clear c0 c1 c2 c3 d0 d1 d2 d3
    obtain ⟨q, hq, rfl, c0, c1, c2, c3, d0, d1, d2, d3, hhas, hchg⟩ := hrel
    have HHs := Lib.hid hhas
    have HC := Lib.hid hchg
    clear hhas hchg
    by_cases hlt : q < K
    · have HPl1 := Lib.hid (fun W (A : Option Addr) (nn cc oo ii : Nat) (h : (oo = o ∧ ii = i) ∨ (oo = o' ∧ ii = i')) => HPl.out W A nn cc oo ii q ⟨hlt, h⟩)
      have hv := swapd_right (s := s) hlt Hi'.out HM.out
      have hu := swapd_left (s := s) hlt Hi.out HM.out
      have hst := swapd_step (s := s) hlt Hi.out Hi'.out HM.out
      have hR1 := HR.out q hlt
      have hR2 := HR'.out q hlt
      have hsl : ∀ x, (swapd s g o i g' o' i' K q x).length = (s x).length := fun x => swapd_len _ _ _ _ _ _ _ _ _ _
      have hne := HM.out
      generalize (lst (s g') o' i' K).getD q 0 = v at *
      generalize (lst (s g) o i K).getD q 0 = u at *
      generalize swapd s g o i g' o' i' K q = s1 at *
      have HSt := Lib.hid hst
      have hP : o + q * i < (s1 g).length := by rw [hsl, Hl.out]; exact hR1
      have hQ : o' + q * i' < (s1 g').length := by rw [hsl, Hl'.out]; exact hR2
      have hcellQ := HHs.out.get Hg'.out hQ
      have hcellP := HHs.out.get Hg.out hP
      have hfzP := (HHs.out g Hg.out).frozen (o + q * i)
      have hfzQ := (HHs.out g' Hg'.out).frozen (o' + q * i')
      rw [hv] at hcellQ
      rw [hu] at hcellP
      have hPQ : ¬ (g' = g ∧ o' + q * i' = o + q * i) := fun ⟨e1, e2⟩ => hne e1.symm q hlt q hlt e2.symm
      clear hst hsl hne
      obtain ⟨P, hPd⟩ : ∃ P : Nat, o + q * i = P := ⟨_, rfl⟩
      obtain ⟨Q, hQd⟩ : ∃ Q : Nat, o' + q * i' = Q := ⟨_, rfl⟩
      rw [hPd] at hP hcellP hfzP hPQ hR1 HSt
      rw [hQd] at hQ hcellQ hfzQ hPQ hR2 HSt
      have HPb := Lib.hid (fun W (A : Option Addr) (nn cc oo ii pp : Nat) (h : (A = some ⟨g, 0, none⟩ ∧ nn = n ∧ cc = c ∧ oo = o ∧ ii = i ∧ pp = P) ∨ (A = some ⟨g', 0, none⟩ ∧ nn = n' ∧ cc = c' ∧ oo = o' ∧ ii = i' ∧ pp = Q)) =>
        show Calls Try.prog 63 #[.agg #[.slice A nn cc, .int .i64 oo, .int .i64 K, .int .i64 ii], .int .i64 q] W fun e w' => e = .returned (.int .i64 pp) ∧ Below W.heap.size W w' from by
          rcases h with ⟨rfl, rfl, rfl, rfl, rfl, rfl⟩ | ⟨rfl, rfl, rfl, rfl, rfl, rfl⟩
          · rw [← hPd]; exact HPl1.out W _ _ _ _ _ (.inl ⟨rfl, rfl⟩)
          · rw [← hQd]; exact HPl1.out W _ _ _ _ _ (.inr ⟨rfl, rfl⟩))
      have HPd := Lib.hid hPd
      have HQd := Lib.hid hQd
      rw [hPd] at hu
      rw [hQd] at hv
      have HU := Lib.hid hu
      have HV := Lib.hid hv
      clear hu hv
      have HPQ := Lib.hid hPQ
      have HPs := Lib.hid hP
      have HQs := Lib.hid hQ
      clear hPd hQd hPQ hP hQ HPl1 hcellP hcellQ hfzP hfzQ
      have b1 : (P : Int) < (n : Int) := by omega
      have b2 : (Q : Int) < (n' : Int) := by omega
      have HHd := Lib.hid HHs.out.drew
      have hzz : z ≠ g := by omega
      have hzz' : z + 1 ≠ g := by omega
      have hyy : z ≠ g' := by omega
      have hyy' : z + 1 ≠ g' := by omega
      go_wp2_with fail
      go_region_held3 (fun w' => w'.cell? ⟨z, 0, none⟩ = some (.slice (some ⟨g, 0, none⟩) n c) ∧ w'.cell? ⟨z, 1, none⟩ = some (.int .i64 o) ∧ w'.cell? ⟨z, 2, none⟩ = some (.int .i64 K) ∧ w'.cell? ⟨z, 3, none⟩ = some (.int .i64 i) ∧ w'.cell? ⟨z + 1, 0, none⟩ = some (.slice (some ⟨g', 0, none⟩) n' c') ∧ w'.cell? ⟨z + 1, 1, none⟩ = some (.int .i64 o') ∧ w'.cell? ⟨z + 1, 2, none⟩ = some (.int .i64 K) ∧ w'.cell? ⟨z + 1, 3, none⟩ = some (.int .i64 i') ∧ Below wr.heap.size wr w')
        (first | exact ⟨c0, c1, c2, c3, d0, d1, d2, d3, (Below.refl _ wr).drew⟩ | exact heldQ8 ‹_ ∧ _ ∧ _ ∧ _ ∧ _ ∧ _ ∧ _ ∧ _ ∧ Below wr.heap.size wr _› hbA (fun k => k.trans (hbA.mono k.size)))
        (first
          | (go_at_call 63; refine (HPb.out _ _ _ _ _ _ _ (by first | exact .inl ⟨rfl, rfl, rfl, rfl, rfl, rfl⟩ | exact .inr ⟨rfl, rfl, rfl, rfl, rfl, rfl⟩)).mono ?_; rintro e1 wA ⟨rfl, hbA⟩; skip))
      have hbw := (‹_ ∧ _ ∧ _ ∧ _ ∧ _ ∧ _ ∧ _ ∧ _ ∧ Below wr.heap.size wr _›).2.2.2.2.2.2.2.2
      obtain ⟨p0, p1, p2, p3, q0, q1, q2, q3, _⟩ := ‹_ ∧ _ ∧ _ ∧ _ ∧ _ ∧ _ ∧ _ ∧ _ ∧ Below wr.heap.size wr _›
      clear c0 c1 c2 c3 d0 d1 d2 d3
      have HHA := Lib.hid (HHs.out.nxt hbw)
      have HCA := Lib.hid (HC.out.nxt hbw)
      clear hbw
      have hcP := HHA.out.get Hg.out HPs.out
      have hcQ := HHA.out.get Hg'.out HQs.out
      rw [HU.out] at hcP
      rw [HV.out] at hcQ
      have hfP := (HHA.out g Hg.out).frozen P
      have hfQ := (HHA.out g' Hg'.out).frozen Q
      have hcQ2 : (wA.setCell ⟨g, P, none⟩ (.float .f64 v)).cell? ⟨g', Q, none⟩ = some (.float .f64 v) := (cell_set2 HPQ.out _).trans hcQ
      go_wp2_with fail
      go_region
      have hlen : Q < ((upd s1 g ((s1 g).set P v)) g').length := by
        have hq := HQs.out
        by_cases e : g' = g
        · subst e; rw [upd_self, List.length_set]; exact hq
        · rw [upd_ne e]; exact hq
      have hs2 := ((HHA.out.set_ Hg.out v HPs.out).set_ Hg'.out u hlen).drew
      rw [HSt.out] at hs2
      have HS2 := Lib.hid hs2
      have HC2 := Lib.hid (((HCA.out.set_in (p := ⟨g, P, none⟩) Hg.out (.float .f64 v)).set_in (p := ⟨g', Q, none⟩) Hg'.out (.float .f64 u)).drew)
      have e0 : ∀ (b x : Nat) (y : Value), b ≠ g → b ≠ g' → wA.cell? ⟨b, x, none⟩ = some y → (((wA.setCell ⟨g, P, none⟩ (.float .f64 v)).setCell ⟨g', Q, none⟩ (.float .f64 u)).drew).cell? ⟨b, x, none⟩ = some y := fun b x y h1 h2 h3 =>
        show ((wA.setCell ⟨g, P, none⟩ (.float .f64 v)).setCell ⟨g', Q, none⟩ (.float .f64 u)).cell? ⟨b, x, none⟩ = some y from (cell_set h2 _).trans ((cell_set h1 _).trans h3)
      have r0 := e0 _ _ _ hzz hyy p0
      have r1 := e0 _ _ _ hzz hyy p1
      have r2 := e0 _ _ _ hzz hyy p2
      have r3 := e0 _ _ _ hzz hyy p3
      have t0 := e0 _ _ _ hzz' hyy' q0
      have t1 := e0 _ _ _ hzz' hyy' q1
      have t2 := e0 _ _ _ hzz' hyy' q2
      have t3 := e0 _ _ _ hzz' hyy' q3
      clear e0 p0 p1 p2 p3 q0 q1 q2 q3 hcP hcQ hfP hfQ hcQ2 hs2
      generalize ((wA.setCell ⟨g, P, none⟩ (.float .f64 v)).setCell ⟨g', Q, none⟩ (.float .f64 u)).drew = W9 at *
      go_wp2_with fail
      go_roundw
      case rel => exact ⟨q + 1, by omega, by go_num, r0, r1, r2, r3, t0, t1, t2, t3, HS2.out, HC2.out⟩
      case measure => simp [intOf]; omega
    · obtain rfl : q = K := by omega
      go_wp2_with fail
      go_ret
      exact ⟨rfl, HHs.out, HC.out⟩
end Go.Proofs.Ytamndbeffbcppaa
