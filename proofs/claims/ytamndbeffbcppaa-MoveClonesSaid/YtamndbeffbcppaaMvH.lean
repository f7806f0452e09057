/-
Rows of a matrix change places, in the list. Conditions: as each says.
-/
import Derived.Test.YtamndbeffbcppaaMvG
set_option linter.unusedVariables false
namespace Go.Proofs.Ytamndbeffbcppaa
open Go.RowKit
attribute [local go_sem ↓] Go.wp_at_zero Go.wp_at_succ

/-- A right matrix, in plain numbers. -/
theorem mat_nat {n : Nat} {off r k ld : Int} (h : matB n off r k ld = true) : ∃ o R C L : Nat, off = o ∧ r = R ∧ k = C ∧ ld = L ∧ 1 ≤ L ∧ R ≤ L ∧ (R = 0 ∨ C = 0 ∨ o + (C - 1) * L + (R - 1) < n) := by
  have h := of_decide_eq_true h
  refine ⟨off.toNat, r.toNat, k.toNat, ld.toNat, by omega, by omega, by omega, by omega, by omega, by omega, ?_⟩
  by_cases hr : r = 0
  · exact .inl (by omega)
  · by_cases hk : k = 0
    · exact .inr (.inl (by omega))
    · refine .inr (.inr ?_)
      have e : ((off.toNat + (k.toNat - 1) * ld.toNat + (r.toNat - 1) : Nat) : Int) = off + (k - 1) * ld + (r - 1) := by
        rw [Int.natCast_add, Int.natCast_add, Int.natCast_mul, Int.toNat_of_nonneg (by omega), Int.toNat_of_nonneg (by omega : 0 ≤ ld)]
        have e1 : ((k.toNat - 1 : Nat) : Int) = k - 1 := by omega
        have e2 : ((r.toNat - 1 : Nat) : Int) = r - 1 := by omega
        rw [e1, e2]
      omega
theorem mat_right {n o R C L : Nat} (hL : 1 ≤ L) (hR : R ≤ L) (h : R = 0 ∨ C = 0 ∨ o + (C - 1) * L + (R - 1) < n) : matB n (o : Int) (R : Int) (C : Int) (L : Int) = true := by
  refine decide_eq_true ⟨by omega, by omega, by omega, by omega, by omega, ?_⟩
  rcases Nat.eq_zero_or_pos R with h0 | h0
  · exact .inl (by omega)
  rcases Nat.eq_zero_or_pos C with h1 | h1
  · exact .inr (.inl (by omega))
  have h2 : o + (C - 1) * L + (R - 1) < n := by omega
  refine .inr (.inr ?_)
  have e : ((C : Int) - 1) * (L : Int) = (((C - 1) * L : Nat) : Int) := by rw [Int.natCast_mul]; congr 1; omega
  rw [e]; omega

/-- The list has the table T at the matrix' places, and is else as it was. -/
def Img (l : List Nat) (o R C L : Nat) (T : Nat → Nat → Nat) (l' : List Nat) : Prop :=
  l'.length = l.length ∧ (∀ a, a < R → ∀ b, b < C → l'.getD (o + a + b * L) 0 = T a b) ∧ ∀ x, (∀ a, a < R → ∀ b, b < C → x ≠ o + a + b * L) → l'.getD x 0 = l.getD x 0
theorem Img.uniq {l : List Nat} {o R C L : Nat} {T T' : Nat → Nat → Nat} {m m' : List Nat} (h : Img l o R C L T m) (h' : Img l o R C L T' m') (e : ∀ a, a < R → ∀ b, b < C → T a b = T' a b) : m = m' := by
  refine ext_getD (h.1.trans h'.1.symm) fun x _ => ?_
  by_cases hx : ∃ a, a < R ∧ ∃ b, b < C ∧ x = o + a + b * L
  · obtain ⟨a, ha, b, hb, rfl⟩ := hx
    rw [h.2.1 a ha b hb, h'.2.1 a ha b hb, e a ha b hb]
  · have hx' : ∀ a, a < R → ∀ b, b < C → x ≠ o + a + b * L := fun a ha b hb e => hx ⟨a, ha, b, hb, e⟩
    rw [h.2.2 x hx', h'.2.2 x hx']
theorem Img.refl (l : List Nat) (o R C L : Nat) : Img l o R C L (fun a b => l.getD (o + a + b * L) 0) l := ⟨rfl, fun _ _ _ _ => rfl, fun _ _ => rfl⟩
theorem Img.trans {l m m' : List Nat} {o R C L : Nat} {T T' : Nat → Nat → Nat} (h : Img l o R C L T m) (h' : Img m o R C L T' m') : Img l o R C L T' m' :=
  ⟨h'.1.trans h.1, h'.2.1, fun x hx => (h'.2.2 x hx).trans (h.2.2 x hx)⟩
theorem Img.congr {l m : List Nat} {o R C L : Nat} {T T' : Nat → Nat → Nat} (h : Img l o R C L T m) (e : ∀ a, a < R → ∀ b, b < C → T a b = T' a b) : Img l o R C L T' m :=
  ⟨h.1, fun a ha b hb => (h.2.1 a ha b hb).trans (e a ha b hb), h.2.2⟩
theorem spots_inj {L a b a' b' : Nat} (ha : a < L) (ha' : a' < L) (h : a + b * L = a' + b' * L) : a = a' ∧ b = b' := by
  have h1 : (a + b * L) % L = a := by rw [Nat.add_mul_mod_self_right, Nat.mod_eq_of_lt ha]
  have h2 : (a' + b' * L) % L = a' := by rw [Nat.add_mul_mod_self_right, Nat.mod_eq_of_lt ha']
  have e : a = a' := by rw [← h1, h, h2]
  subst e
  have hL : 0 < L := Nat.lt_of_le_of_lt (Nat.zero_le _) ha
  have hm : b * L = b' * L := by omega
  exact ⟨rfl, Nat.eq_of_mul_eq_mul_right hL hm⟩
/-- The row that stands at a when rows i and j have changed places. -/
def sw (i j a : Nat) : Nat := if a = i then j else if a = j then i else a
theorem sw_lt {i j a R : Nat} (hi : i < R) (hj : j < R) (ha : a < R) : sw i j a < R := by unfold sw; split <;> (try split) <;> omega
theorem sw_sw (i j a : Nat) : sw i j (sw i j a) = a := by
  unfold sw
  by_cases h1 : a = i
  · subst h1; by_cases h2 : j = a
    · simp [h2]
    · simp [h2]
  · by_cases h2 : a = j
    · subst h2; simp [h1]
    · simp [h1, h2]
theorem swap_img {s : Nat → List Nat} {g o R C L i j : Nat} (hL : 1 ≤ L) (hR : R ≤ L) (hi : i < R) (hj : j < R) (hne : i ≠ j) (hC : 0 < C) (hb : o + (C - 1) * L + (R - 1) < (s g).length) :
    Img (s g) o R C L (fun a b => (s g).getD (o + sw i j a + b * L) 0) (swapd s g (o + i) L g (o + j) L C C g) := by
  have e : swapd s g (o + i) L g (o + j) L C C g = wrt (wrt (s g) (o + i) L (lst (s g) (o + j) L C) C) (o + j) L (lst (s g) (o + i) L C) C := by
    unfold swapd; rw [upd_self, upd_self]
  rw [e]
  refine ⟨by rw [wrt_length, wrt_length], fun a ha b hb' => ?_, fun x hx => ?_⟩
  · by_cases h1 : a = j
    · subst h1
      rw [wrt_at _ _ _ _ _ hL (.inr (by rw [wrt_length]; omega)) hb', lst_getD _ _ _ hb']
      have : sw i a a = i := by unfold sw; rw [if_neg (fun e => hne e.symm), if_pos rfl]
      simp only [this]
    · rw [wrt_else]
      · by_cases h2 : a = i
        · subst h2
          rw [wrt_at _ _ _ _ _ hL (.inr (by omega)) hb', lst_getD _ _ _ hb']
          have : sw a j a = j := by unfold sw; rw [if_pos rfl]
          simp only [this]
        · rw [wrt_else]
          · have : sw i j a = a := by unfold sw; rw [if_neg h2, if_neg h1]
            simp only [this]
          · intro y hy e
            exact h2 (spots_inj (L := L) (a := a) (b := b) (a' := i) (b' := y) (by omega) (by omega) (by omega)).1
      · intro y hy e
        exact h1 (spots_inj (L := L) (a := a) (b := b) (a' := j) (b' := y) (by omega) (by omega) (by omega)).1
  · rw [wrt_else, wrt_else]
    · intro y hy; exact hx i hi y hy
    · intro y hy; exact hx j hj y hy

theorem pair_ok {g g' n n' o K i o' i' : Nat} (hi : 1 ≤ i) (hi' : 1 ≤ i') (hr : K = 0 ∨ o + (K - 1) * i < n) (hr' : K = 0 ∨ o' + (K - 1) * i' < n') (hm : g = g' → ∀ a, a < K → ∀ b, b < K → o + a * i ≠ o' + b * i') :
    pairI (decide (g = g')) n o K i n' o' K i' = 0 := by
  unfold pairI
  rw [vec_right hi hr, vec_right hi' hr', if_pos rfl, if_pos rfl, if_pos rfl]
  simp only [Int.toNat_natCast]
  rw [if_neg]
  intro h
  rw [Bool.and_eq_true, decide_eq_true_eq] at h
  have := metB_false.2 (hm h.1)
  rw [this] at h
  cases h.2

theorem pair_bad (A A' : Option Addr) (n c : Nat) (off k inc : Int) (n' c' : Nat) (off' k' inc' : Int) (w : World) (hn : n < 9223372036854775808) (hn' : n' < 9223372036854775808)
    (ho : I64 off) (hk : I64 k) (hi : I64 inc) (ho' : I64 off') (hk' : I64 k') (hi' : I64 inc') (h : (vecB n off k inc && vecB n' off' k' inc') = false) :
    Calls Try.prog 62 #[vec A n c off k inc, vec A' n' c' off' k' inc'] w fun e w' => e = .returned (.int .i64 1) ∧ Below w.heap.size w w' := by
  have HR := Lib.hid (fun W => right_any A n c off k inc W (by omega) ho hk hi)
  have HR' := Lib.hid (fun W => right_any A' n' c' off' k' inc' W (by omega) ho' hk' hi')
  generalize vecB n off k inc = x at *
  generalize vecB n' off' k' inc' = x' at *
  clear hn hn' ho hk hi ho' hk' hi'
  unfold vec at *
  go_enter Try.func62, Try.ntmps62
  have HZ0 := Lib.hid ((Blk.new w 45 #[.slice A n c, .int .i64 off, .int .i64 k, .int .i64 inc]).alloc (.cells #[.slice A' n' c', .int .i64 off', .int .i64 k', .int .i64 inc'] 45))
  have HZ1 := Lib.hid (Blk.new_ (w.alloc (.cells #[.slice A n c, .int .i64 off, .int .i64 k, .int .i64 inc] 45)) 45 #[.slice A' n' c', .int .i64 off', .int .i64 k', .int .i64 inc'] (w.heap.size + 1) (by simp))
  have HBl := Lib.hid (((Below.refl w.heap.size w).alloc (Nat.le_refl _) (.cells #[.slice A n c, .int .i64 off, .int .i64 k, .int .i64 inc] 45)).alloc (by simp) (.cells #[.slice A' n' c', .int .i64 off', .int .i64 k', .int .i64 inc'] 45))
  go_wp2_with fail
  refine (HR.out _).mono ?_
  rintro e w1 ⟨rfl, hb1⟩
  have HB1 := Lib.hid (below_nx HBl.out hb1)
  have HZ2 := Lib.hid (HZ0.out.nxt hb1)
  have HZ3 := Lib.hid (HZ1.out.nxt hb1)
  clear hb1
  obtain ⟨c0, c1, c2, c3⟩ := cells4w HZ2.out
  obtain ⟨d0, d1, d2, d3⟩ := cells4w HZ3.out
  cases x
  · go_wp2_with fail
    go_ret
    exact ⟨rfl, HB1.out⟩
  go_wp2_with fail
  refine (HR'.out _).mono ?_
  rintro e w2 ⟨rfl, hb1⟩
  have HB2 := Lib.hid (below_nx HB1.out hb1)
  clear hb1 c0 c1 c2 c3 d0 d1 d2 d3
  cases x'
  · go_wp2_with fail
    go_ret
    exact ⟨rfl, HB2.out⟩
  · cases h

theorem mswap_bad (A A' : Option Addr) (n c : Nat) (off k inc : Int) (n' c' : Nat) (off' k' inc' : Int) (w : World) (hn : n < 9223372036854775808) (hn' : n' < 9223372036854775808)
    (ho : I64 off) (hk : I64 k) (hi : I64 inc) (ho' : I64 off') (hk' : I64 k') (hi' : I64 inc') (h : (vecB n off k inc && vecB n' off' k' inc') = false) :
    Calls Try.prog 41 #[vec A n c off k inc, vec A' n' c' off' k' inc'] w fun e w' => e = .returned (.int .i64 1) ∧ Below w.heap.size w w' := by
  have HP := Lib.hid (fun W => pair_bad A A' n c off k inc n' c' off' k' inc' W hn hn' ho hk hi ho' hk' hi' h)
  clear hn hn' ho hk hi ho' hk' hi' h
  unfold vec at *
  go_enter Try.func41, Try.ntmps41
  have HBl := Lib.hid (((Below.refl w.heap.size w).alloc (Nat.le_refl _) (.cells #[.slice A n c, .int .i64 off, .int .i64 k, .int .i64 inc] 45)).alloc (by simp) (.cells #[.slice A' n' c', .int .i64 off', .int .i64 k', .int .i64 inc'] 45))
  go_wp2_with fail
  refine (HP.out _).mono ?_
  rintro e w1 ⟨rfl, hb1⟩
  have HB1 := Lib.hid (below_nx HBl.out hb1)
  clear hb1
  go_wp2_with fail
  go_ret
  exact ⟨rfl, HB1.out⟩

/-- Rows that aren't there, or a matrix that isn't right. -/
theorem rows_not (A : Option Addr) (n c : Nat) (off r k ld i j : Int) (w : World) (hn : n < 9223372036854775808) (ho : I64 off) (hr : I64 r) (hk : I64 k) (hl : I64 ld) (hi : I64 i) (hj : I64 j)
    (h : (matB n off r k ld && (decide (0 ≤ i) && decide (i < r)) && (decide (0 ≤ j) && decide (j < r))) = false) :
    Calls Try.prog 10 #[mat A n c off r k ld, .int .i64 i, .int .i64 j] w fun e w' => e = .returned (.int .i64 1) ∧ Below w.heap.size w w' := by
  have z0 : I64 0 := by unfold I64; omega
  have hz : ∀ (x : Nat), vecB x 0 0 0 = false := fun x => decide_eq_false (by omega)
  cases h1 : (matB n off r k ld && (decide (0 ≤ i) && decide (i < r)))
  · cases h2 : (matB n off r k ld && (decide (0 ≤ j) && decide (j < r)))
    · refine (rows_gen A n c off r k ld i j none none 0 0 0 0 0 0 0 0 0 0 1 (fun W W' => Below W.heap.size W W') w (by omega) z0 z0 z0 (fun W => vrow_none A n c off r k ld i W hn ho hr hk hl h1) (fun W => vrow_none A n c off r k ld j W hn ho hr hk hl h2) (fun _ e => by rw [hz] at e; cases e)
        (fun _ W _ => mswap_bad none none 0 0 0 0 0 0 0 0 0 0 W (by omega) (by omega) z0 z0 z0 z0 z0 z0 (by rw [hz]; rfl))).mono fun e w' ⟨he, W, hb, hb2⟩ => ⟨he, below_nx hb hb2⟩
    · have hm : matB n off r k ld = true := by simp only [Bool.and_eq_true] at h2; exact h2.1
      have hj2 : 0 ≤ j ∧ j < r := by simp at h2; exact h2.2
      have q := of_decide_eq_true hm
      have hro : I64 (rowOff off k j) := by
        unfold rowOff
        split
        · exact ho
        · rename_i h0
          have e : 0 ≤ (k - 1) * ld := Int.mul_nonneg (by omega) (by omega)
          unfold I64 at *; omega
      refine (rows_gen A n c off r k ld i j none A 0 0 n c 0 0 0 (rowOff off k j) k ld 1 (fun W W' => Below W.heap.size W W') w (by omega) z0 z0 z0 (fun W => vrow_none A n c off r k ld i W hn ho hr hk hl h1) (fun W => vrow_some A n c off r k ld j W hn ho hr hk hl hj hm hj2) (fun _ e => by rw [hz] at e; cases e)
        (fun _ W _ => mswap_bad none A 0 0 0 0 0 n c _ k ld W (by omega) hn z0 z0 z0 hro hk hl (by rw [hz]; rfl))).mono fun e w' ⟨he, W, hb, hb2⟩ => ⟨he, below_nx hb hb2⟩
  · have hm : matB n off r k ld = true := by simp only [Bool.and_eq_true] at h1; exact h1.1
    have hi2 : 0 ≤ i ∧ i < r := by simp at h1; exact h1.2
    have h2 : (matB n off r k ld && (decide (0 ≤ j) && decide (j < r))) = false := by
      rw [h1] at h
      rw [hm]; simpa using h
    have hne : ¬ i = j := by
      rintro rfl
      rw [h1] at h2; cases h2
    have q := of_decide_eq_true hm
    have hro : I64 (rowOff off k i) := by
      unfold rowOff
      split
      · exact ho
      · rename_i h0
        have e : 0 ≤ (k - 1) * ld := Int.mul_nonneg (by omega) (by omega)
        unfold I64 at *; omega
    refine (rows_gen A n c off r k ld i j A none n c 0 0 (rowOff off k i) k ld 0 0 0 1 (fun W W' => Below W.heap.size W W') w hn hro hk hl (fun W => vrow_some A n c off r k ld i W hn ho hr hk hl hi hm hi2) (fun W => vrow_none A n c off r k ld j W hn ho hr hk hl h2) (fun e _ => (hne e).elim)
      (fun _ W _ => mswap_bad A none n c _ k ld 0 0 0 0 0 W hn (by omega) hro hk hl z0 z0 z0 (by rw [hz, Bool.and_false]))).mono fun e w' ⟨he, W, hb, hb2⟩ => ⟨he, below_nx hb hb2⟩

/-- Rows that are there. -/
theorem rows_there (g c : Nat) (l : List Nat) (n o R C L i j : Nat) (w : World) (hO : Own w g l) (hln : l.length = n) (hn : n < 9223372036854775808) (hb : o < 9223372036854775808 ∧ R < 9223372036854775808 ∧ C < 9223372036854775808 ∧ L < 9223372036854775808)
    (hL : 1 ≤ L) (hR : R ≤ L) (hr : R = 0 ∨ C = 0 ∨ o + (C - 1) * L + (R - 1) < n) (hi : i < R) (hj : j < R) :
    Calls Try.prog 10 #[mat (some ⟨g, 0, none⟩) n c o R C L, .int .i64 i, .int .i64 j] w fun e w' => e = .returned (.int .i64 0) ∧ ∃ l', Own w' g l' ∧ Img l o R C L (fun a b => l.getD (o + sw i j a + b * L) 0) l' ∧ Chg [g] w w' := by
  have hm : matB n (o : Int) (R : Int) (C : Int) (L : Int) = true := mat_right hL hR hr
  obtain ⟨oi, hoi⟩ : ∃ oi : Nat, rowOff (o : Int) (C : Int) (i : Int) = oi := by
    unfold rowOff; split
    · exact ⟨o, rfl⟩
    · exact ⟨o + i, by simp⟩
  obtain ⟨oj, hoj⟩ : ∃ oj : Nat, rowOff (o : Int) (C : Int) (j : Int) = oj := by
    unfold rowOff; split
    · exact ⟨o, rfl⟩
    · exact ⟨o + j, by simp⟩
  have hoi2 : oi = if C = 0 then o else o + i := by
    unfold rowOff at hoi
    split at hoi
    · rename_i h; rw [if_pos (by omega)]; omega
    · rename_i h; rw [if_neg (by omega)]; omega
  have hoj2 : oj = if C = 0 then o else o + j := by
    unfold rowOff at hoj
    split at hoj
    · rename_i h; rw [if_pos (by omega)]; omega
    · rename_i h; rw [if_neg (by omega)]; omega
  have hbi : C = 0 ∨ oi + (C - 1) * L < n := by
    rcases Nat.eq_zero_or_pos C with h0 | h0
    · exact .inl h0
    · rw [hoi2, if_neg (by omega)]; exact .inr (by omega)
  have hbj : C = 0 ∨ oj + (C - 1) * L < n := by
    rcases Nat.eq_zero_or_pos C with h0 | h0
    · exact .inl h0
    · rw [hoj2, if_neg (by omega)]; exact .inr (by omega)
  have hbi2 : oi < 9223372036854775808 := by
    rcases Nat.eq_zero_or_pos C with h0 | h0
    · rw [hoi2, if_pos h0]; omega
    · omega
  have hbj2 : oj < 9223372036854775808 := by
    rcases Nat.eq_zero_or_pos C with h0 | h0
    · rw [hoj2, if_pos h0]; omega
    · omega
  have hv : vecB n (oi : Int) (C : Int) (L : Int) = true := vec_right hL hbi
  have hH := has_one hO
  have hmeet : i ≠ j → (g = g → ∀ a, a < C → ∀ b, b < C → oi + a * L ≠ oj + b * L) := by
    intro hne _ a ha b hb' e
    rw [hoi2, hoj2, if_neg (by omega), if_neg (by omega)] at e
    exact hne (spots_inj (L := L) (a := i) (b := a) (a' := j) (b' := b) (by omega) (by omega) (by omega)).1
  refine (rows_gen (some ⟨g, 0, none⟩) n c o R C L i j (some ⟨g, 0, none⟩) (some ⟨g, 0, none⟩) n c n c oi C L oj C L 0 (fun W W' => (i = j ∧ W = W') ∨ (i ≠ j ∧ Has W' [g] (swapd (fun _ => l) g oi L g oj L C C) ∧ Chg [g] W W')) w hn (by unfold I64; omega) (by unfold I64; omega) (by unfold I64; omega)
    (fun W => by
      have := vrow_some (some ⟨g, 0, none⟩) n c o R C L i W hn (by unfold I64; omega) (by unfold I64; omega) (by unfold I64; omega) (by unfold I64; omega) (by unfold I64; omega) hm (by omega)
      rw [hoi] at this; exact this)
    (fun W => by
      have := vrow_some (some ⟨g, 0, none⟩) n c o R C L j W hn (by unfold I64; omega) (by unfold I64; omega) (by unfold I64; omega) (by unfold I64; omega) (by unfold I64; omega) hm (by omega)
      rw [hoj] at this; exact this)
    (fun e _ => ⟨rfl, fun W _ => .inl ⟨by omega, rfl⟩⟩)
    (fun h W hbW => by
      have hne : i ≠ j := fun e => h ⟨by omega, hv⟩
      refine (mswap_ok [g] (fun _ => l) g g c c n n oi L oj L C W (hH.nxt hbW) (List.mem_singleton.2 rfl) (List.mem_singleton.2 rfl) hln hln hn hn (by omega) hL hL hbi hbj (hmeet hne) (pair_ok hL hL hbi hbj (hmeet hne))).mono ?_
      rintro e w' ⟨rfl, h1, h2⟩
      exact ⟨rfl, .inr ⟨hne, h1, h2⟩⟩)).mono ?_
  rintro e w' ⟨rfl, W, hbW, h⟩
  refine ⟨rfl, ?_⟩
  rcases h with ⟨rfl, rfl⟩ | ⟨hne, h1, h2⟩
  · refine ⟨l, hO.nxt hbW, (Img.refl l o R C L).congr fun a ha b hb' => ?_, .of_below hbW⟩
    have : sw i i a = a := by unfold sw; split <;> simp_all
    simp only [this]
  · have h3 := h1.own (List.mem_singleton.2 rfl)
    refine ⟨_, h3, ?_, (Chg.of_below hbW).trans h2⟩
    rcases Nat.eq_zero_or_pos C with h0 | h0
    · subst h0
      rw [swapd_zero]
      exact (Img.refl l o R 0 L).congr fun a ha b hb' => by omega
    · rw [hoi2, hoj2, if_neg (by omega), if_neg (by omega)]
      exact swap_img (s := fun _ => l) hL hR hi hj hne h0 (by show _ < l.length; omega)
end Go.Proofs.Ytamndbeffbcppaa
