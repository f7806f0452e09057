/-
Vectors that meet, and Pair. Conditions: as each says.
-/
import Derived.Test.YtamndbeffbcppaaHeld
set_option linter.unusedVariables false
namespace Go.Proofs.Ytamndbeffbcppaa
open Go.RowKit
attribute [local go_sem ↓] Go.wp_at_zero Go.wp_at_succ

/-- Have vectors of K numbers a place in common? -/
def metB (off inc off' inc' K : Nat) : Bool := (List.range K).any fun i => (List.range K).any fun j => off + i * inc == off' + j * inc'
theorem metB_true {off inc off' inc' K : Nat} : metB off inc off' inc' K = true ↔ ∃ i, i < K ∧ ∃ j, j < K ∧ off + i * inc = off' + j * inc' := by
  simp [metB]
theorem metB_false {off inc off' inc' K : Nat} : metB off inc off' inc' K = false ↔ ∀ i, i < K → ∀ j, j < K → off + i * inc ≠ off' + j * inc' := by
  rw [← Bool.not_eq_true, metB_true]
  constructor
  · intro h i hi j hj e
    exact h ⟨i, hi, j, hj, e⟩
  · rintro h ⟨i, hi, j, hj, e⟩
    exact h i hi j hj e

theorem vec_mat (n : Nat) (off k inc : Int) : matB n off 1 k inc = vecB n off k inc := by
  unfold matB vecB
  exact decide_eq_decide.2 (by omega)
/-- A right vector, in plain numbers. -/
theorem vec_nat {n : Nat} {off k inc : Int} (h : vecB n off k inc = true) : ∃ o K i : Nat, off = o ∧ k = K ∧ inc = i ∧ 1 ≤ i ∧ (K = 0 ∨ o + (K - 1) * i < n) := by
  have h := of_decide_eq_true h
  refine ⟨off.toNat, k.toNat, inc.toNat, by omega, by omega, by omega, by omega, ?_⟩
  rcases h.2.2.2 with h0 | h0
  · exact .inl (by omega)
  · by_cases hk : k = 0
    · exact .inl (by omega)
    · refine .inr ?_
      have e : ((off.toNat + (k.toNat - 1) * inc.toNat : Nat) : Int) = off + (k - 1) * inc := by
        rw [Int.natCast_add, Int.natCast_mul, Int.toNat_of_nonneg (by omega), Int.toNat_of_nonneg (by omega : 0 ≤ inc)]
        congr 2
        omega
      omega
theorem vec_right {n o K i : Nat} (hi : 1 ≤ i) (h : K = 0 ∨ o + (K - 1) * i < n) : vecB n (o : Int) (K : Int) (i : Int) = true := by
  refine decide_eq_true ⟨by omega, by omega, by omega, ?_⟩
  rcases h with h | h
  · exact .inl (by omega)
  · rcases Nat.eq_zero_or_pos K with h0 | h0
    · exact .inl (by omega)
    · refine .inr ?_
      have e : ((K : Int) - 1) * (i : Int) = (((K - 1) * i : Nat) : Int) := by rw [Int.natCast_mul]; congr 1; omega
      rw [e]; omega

theorem stands_iff {off' K inc' p : Nat} (hi : 1 ≤ inc') : standsB (off' : Int) (K : Int) (inc' : Int) (p : Int) = true ↔ ∃ j, j < K ∧ p = off' + j * inc' := by
  unfold standsB
  rw [decide_eq_true_eq]
  constructor
  · rintro ⟨h1, h2, h3⟩
    obtain ⟨q, hq⟩ : ∃ q : Nat, (p : Int) - off' = q := ⟨p - off', by omega⟩
    rw [hq] at h2 h3
    have h2' : q % inc' = 0 := by exact_mod_cast h2
    have h3' : q / inc' < K := by exact_mod_cast h3
    refine ⟨q / inc', h3', ?_⟩
    have := Nat.div_add_mod q inc'
    rw [h2', Nat.mul_comm] at this
    omega
  · rintro ⟨j, hj, rfl⟩
    have e : ((off' + j * inc' : Nat) : Int) - off' = ((j * inc' : Nat) : Int) := by omega
    rw [e]
    refine ⟨by omega, ?_, ?_⟩
    · have : j * inc' % inc' = 0 := Nat.mul_mod_left _ _
      exact_mod_cast this
    · have : j * inc' / inc' = j := Nat.mul_div_cancel _ hi
      have h2 : ((j * inc' : Nat) : Int) / (inc' : Int) = ((j * inc' / inc' : Nat) : Int) := by simp
      rw [h2, this]; exact_mod_cast hj
theorem stands_not {off' K inc' p : Nat} (hi : 1 ≤ inc') (h : standsB (off' : Int) (K : Int) (inc' : Int) (p : Int) = false) : ∀ j, j < K → p ≠ off' + j * inc' := by
  intro j hj e
  rw [(stands_iff hi).2 ⟨j, hj, e⟩] at h
  cases h

/-- What Meet says of the rows that two vectors of K numbers are. -/
def spanB (n o i n' o' i' K : Nat) : Bool := bothB n o 1 K i n' o' 1 K i' && (decide ((o : Int) ≤ lastI o' 1 K i') && decide ((o' : Int) ≤ lastI o 1 K i))
theorem span_not {n o i n' o' i' K : Nat} (hi : 1 ≤ i) (hi' : 1 ≤ i') (hr : K = 0 ∨ o + (K - 1) * i < n) (hr' : K = 0 ∨ o' + (K - 1) * i' < n') (h : spanB n o i n' o' i' K = false) : metB o i o' i' K = false := by
  rw [metB_false]
  intro a ha b hb e
  have h1 : bothB n o 1 K i n' o' 1 K i' = true := by
    unfold bothB
    rw [vec_mat, vec_mat, vec_right hi hr, vec_right hi' hr']
    have : ((K : Int) == 0) = false := by simp; omega
    simp [this]
  unfold spanB at h
  rw [h1] at h
  have a1 : a * i ≤ (K - 1) * i := Nat.mul_le_mul_right _ (by omega)
  have b1 : b * i' ≤ (K - 1) * i' := Nat.mul_le_mul_right _ (by omega)
  have e1 : ((K : Int) - 1) * (i : Int) = (((K - 1) * i : Nat) : Int) := by rw [Int.natCast_mul]; congr 1; omega
  have e2 : ((K : Int) - 1) * (i' : Int) = (((K - 1) * i' : Nat) : Int) := by rw [Int.natCast_mul]; congr 1; omega
  unfold lastI at h
  rw [e1, e2] at h
  simp at h
  omega

theorem and_turn (a b c : Bool) : (a && b && c) = (b && (a && c)) := by cases a <;> cases b <;> cases c <;> rfl
theorem meet_rows (g g' c c' : Nat) (l l' : List Nat) (n n' o i o' i' K : Nat) (w : World) (hO : Own w g l) (hO' : Own w g' l') (hln : l.length = n) (hln' : l'.length = n') (hn : n < 9223372036854775808) (hn' : n' < 9223372036854775808)
    (hb : o < 9223372036854775808 ∧ i < 9223372036854775808 ∧ o' < 9223372036854775808 ∧ i' < 9223372036854775808 ∧ K < 9223372036854775808) :
    Calls Try.prog 51 #[mat (some ⟨g, 0, none⟩) n c o 1 K i, mat (some ⟨g', 0, none⟩) n' c' o' 1 K i'] w fun e w' => e = .returned (.bool (decide (g = g') && spanB n o i n' o' i' K)) ∧ Below w.heap.size w w' := by
  subst hln hln'
  have h := meet_own g g' c c' l l' (o : Int) 1 (K : Int) (i : Int) (o' : Int) 1 (K : Int) (i' : Int) w hO hO' hn (by unfold I64; omega) (by unfold I64; omega) (by unfold I64; omega) (by unfold I64; omega) hn' (by unfold I64; omega) (by unfold I64; omega) (by unfold I64; omega) (by unfold I64; omega)
  rw [and_turn] at h
  exact h

set_option maxHeartbeats 1000000 in
theorem mmeet_any (g g' c c' : Nat) (l l' : List Nat) (n n' o i o' i' K : Nat) (w : World) (hO : Own w g l) (hO' : Own w g' l') (hln : l.length = n) (hln' : l'.length = n') (hn : n < 9223372036854775808) (hn' : n' < 9223372036854775808)
    (hb : o < 9223372036854775808 ∧ i < 9223372036854775808 ∧ o' < 9223372036854775808 ∧ i' < 9223372036854775808 ∧ K < 9223372036854775808) (hi : 1 ≤ i) (hi' : 1 ≤ i') (hr : K = 0 ∨ o + (K - 1) * i < n) (hr' : K = 0 ∨ o' + (K - 1) * i' < n') :
    Calls Try.prog 70 #[vec (some ⟨g, 0, none⟩) n c o K i, vec (some ⟨g', 0, none⟩) n' c' o' K i'] w fun e w' => e = .returned (.bool (decide (g = g') && metB o i o' i' K)) ∧ Below w.heap.size w w' := by
  have HMt := Lib.hid (fun W (h : Below w.heap.size w W) => meet_rows g g' c c' l l' n n' o i o' i' K W (hO.nxt h) (hO'.nxt h) hln hln' hn hn' hb)
  obtain ⟨m, hm⟩ : ∃ m, (decide (g = g') && spanB n o i n' o' i' K) = m := ⟨_, rfl⟩
  obtain ⟨y, hy⟩ : ∃ y, (decide (g = g') && metB o i o' i' K) = y := ⟨_, rfl⟩
  have hmy : m = false → y = false := by
    intro h
    rw [h] at hm
    rw [← hy]
    cases hg : decide (g = g')
    · rfl
    · rw [hg] at hm
      rw [span_not hi hi' hr hr' (by simpa using hm)]; rfl
  have hmt : m = true → y = metB o i o' i' K := by
    intro h
    rw [h] at hm
    rw [← hy]
    cases hg : decide (g = g')
    · rw [hg] at hm; cases hm
    · rfl
  have HPl := Lib.hid (fun W (a : Nat) (h : a < K) => mplace_any (some ⟨g, 0, none⟩) n c o K i a ((o + a * i : Nat) : Int) W (by simp) (by
    have : a * i ≤ (K - 1) * i := Nat.mul_le_mul_right _ (by omega)
    have e : ((a : Int) * (i : Int)) = ((a * i : Nat) : Int) := by simp
    rw [e]; unfold I64; omega) (by
    have : a * i ≤ (K - 1) * i := Nat.mul_le_mul_right _ (by omega)
    unfold I64; omega))
  have HSt := Lib.hid (fun W (a : Nat) (h : a < K) => stands_any (some ⟨g', 0, none⟩) n' c' o' K i' ((o + a * i : Nat) : Int) W (by omega) (by
    have : a * i ≤ (K - 1) * i := Nat.mul_le_mul_right _ (by omega)
    omega) (by omega))
  have HRw := Lib.hid (fun W A n c off k inc => mrow_any A n c off k inc W)
  rw [hm] at HMt
  rw [hy]
  have HMy := Lib.hid hmy
  have HMtt := Lib.hid hmt
  have HI' := Lib.hid hi'
  have hKb : K < 9223372036854775808 := hb.2.2.2.2
  clear hmy hmt hm hy hO hO' hln hln' hn hn' hb hi hi' hr hr'
  unfold vec at *
  unfold mat at *
  go_enter Try.func70, Try.ntmps70
  have hz0 := (Blk.new w 45 #[.slice (some ⟨g, 0, none⟩) n c, .int .i64 o, .int .i64 K, .int .i64 i]).alloc (.cells #[.slice (some ⟨g', 0, none⟩) n' c', .int .i64 o', .int .i64 K, .int .i64 i'] 45)
  have hz1 := Blk.new_ (w.alloc (.cells #[.slice (some ⟨g, 0, none⟩) n c, .int .i64 o, .int .i64 K, .int .i64 i] 45)) 45 #[.slice (some ⟨g', 0, none⟩) n' c', .int .i64 o', .int .i64 K, .int .i64 i'] (w.heap.size + 1) (by simp)
  have hbl := ((Below.refl w.heap.size w).alloc (Nat.le_refl _) (.cells #[.slice (some ⟨g, 0, none⟩) n c, .int .i64 o, .int .i64 K, .int .i64 i] 45)).alloc (by simp) (.cells #[.slice (some ⟨g', 0, none⟩) n' c', .int .i64 o', .int .i64 K, .int .i64 i'] 45)
  have HBl := Lib.hid hbl
  obtain ⟨c0, c1, c2, c3⟩ := cells4w hz0
  obtain ⟨d0, d1, d2, d3⟩ := cells4w hz1
  clear hz0 hz1 hbl
  go_wp2_with fail
  go_region_held3 (fun w' => w'.cell? ⟨w.heap.size, 0, none⟩ = some (.slice (some ⟨g, 0, none⟩) n c) ∧ w'.cell? ⟨w.heap.size, 1, none⟩ = some (.int .i64 o) ∧ w'.cell? ⟨w.heap.size, 2, none⟩ = some (.int .i64 K) ∧ w'.cell? ⟨w.heap.size, 3, none⟩ = some (.int .i64 i) ∧ w'.cell? ⟨w.heap.size + 1, 0, none⟩ = some (.slice (some ⟨g', 0, none⟩) n' c') ∧ w'.cell? ⟨w.heap.size + 1, 1, none⟩ = some (.int .i64 o') ∧ w'.cell? ⟨w.heap.size + 1, 2, none⟩ = some (.int .i64 K) ∧ w'.cell? ⟨w.heap.size + 1, 3, none⟩ = some (.int .i64 i') ∧ Below w.heap.size w w')
    (first | exact ⟨c0, c1, c2, c3, d0, d1, d2, d3, HBl.out.drew⟩ | exact held8 ‹_ ∧ _ ∧ _ ∧ _ ∧ _ ∧ _ ∧ _ ∧ _ ∧ Below w.heap.size w _› hbA)
    (first
      | (go_at_call 51; refine (HMt.out _ (‹_ ∧ _ ∧ _ ∧ _ ∧ _ ∧ _ ∧ _ ∧ _ ∧ Below w.heap.size w _›).2.2.2.2.2.2.2.2).mono ?_; rintro e1 wA ⟨rfl, hbA⟩; skip)
      | (go_at_call 71; refine (HRw.out _ _ _ _ _ _ _).mono ?_; rintro e1 wA ⟨rfl, hbA⟩; skip))
  have HBl := Lib.hid (‹_ ∧ _ ∧ _ ∧ _ ∧ _ ∧ _ ∧ _ ∧ _ ∧ Below w.heap.size w _›).2.2.2.2.2.2.2.2
  obtain ⟨c0, c1, c2, c3, d0, d1, d2, d3, _⟩ := ‹_ ∧ _ ∧ _ ∧ _ ∧ _ ∧ _ ∧ _ ∧ _ ∧ Below w.heap.size w _›
  cases m
  · go_wp2_with fail
    go_ret
    rw [HMy.out (by simp)]
    exact ⟨rfl, HBl.out⟩
  · have HYm := Lib.hid (HMtt.out (by simp))
    clear HMy HMtt
    simp only [Bool.not_true]
    go_wp2_with fail
    go_loopw [14] (fun a wr => ∃ q : Nat, q ≤ K ∧ a = .int .i64 q ∧ (∀ x, x < q → ∀ j, j < K → o + x * i ≠ o' + j * i') ∧ wr.cell? ⟨w.heap.size, 0, none⟩ = some (.slice (some ⟨g, 0, none⟩) n c) ∧ wr.cell? ⟨w.heap.size, 1, none⟩ = some (.int .i64 o) ∧ wr.cell? ⟨w.heap.size, 2, none⟩ = some (.int .i64 K) ∧ wr.cell? ⟨w.heap.size, 3, none⟩ = some (.int .i64 i) ∧ wr.cell? ⟨w.heap.size + 1, 0, none⟩ = some (.slice (some ⟨g', 0, none⟩) n' c') ∧ wr.cell? ⟨w.heap.size + 1, 1, none⟩ = some (.int .i64 o') ∧ wr.cell? ⟨w.heap.size + 1, 2, none⟩ = some (.int .i64 K) ∧ wr.cell? ⟨w.heap.size + 1, 3, none⟩ = some (.int .i64 i') ∧ Below w.heap.size w wr) (fun a _ => K - (intOf a).toNat)
    case atStart => exact ⟨0, Nat.zero_le _, rfl, fun x hx => by omega, c0, c1, c2, c3, d0, d1, d2, d3, HBl.out⟩
    case round =>
      clear c0 c1 c2 c3 d0 d1 d2 d3
      obtain ⟨q, hq, rfl, hno, c0, c1, c2, c3, d0, d1, d2, d3, hbl⟩ := hrel
      have HBl3 := Lib.hid hbl
      have HNo := Lib.hid hno
      clear hbl hno
      by_cases hlt : q < K
      · have HPl1 := Lib.hid (fun W => HPl.out W q hlt)
        have HSt1 := Lib.hid (fun W => HSt.out W q hlt)
        obtain ⟨p, hp⟩ : ∃ p : Nat, o + q * i = p := ⟨_, rfl⟩
        rw [hp] at HPl1 HSt1
        have Hp := Lib.hid hp
        clear hp
        obtain ⟨s, hs⟩ : ∃ s, standsB o' K i' p = s := ⟨_, rfl⟩
        rw [hs] at HSt1
        have Hs := Lib.hid hs
        clear hs
        go_wp2_with fail
        go_region_held3 (fun w' => w'.cell? ⟨w.heap.size, 0, none⟩ = some (.slice (some ⟨g, 0, none⟩) n c) ∧ w'.cell? ⟨w.heap.size, 1, none⟩ = some (.int .i64 o) ∧ w'.cell? ⟨w.heap.size, 2, none⟩ = some (.int .i64 K) ∧ w'.cell? ⟨w.heap.size, 3, none⟩ = some (.int .i64 i) ∧ w'.cell? ⟨w.heap.size + 1, 0, none⟩ = some (.slice (some ⟨g', 0, none⟩) n' c') ∧ w'.cell? ⟨w.heap.size + 1, 1, none⟩ = some (.int .i64 o') ∧ w'.cell? ⟨w.heap.size + 1, 2, none⟩ = some (.int .i64 K) ∧ w'.cell? ⟨w.heap.size + 1, 3, none⟩ = some (.int .i64 i') ∧ Below w.heap.size w w')
          (first | exact ⟨c0, c1, c2, c3, d0, d1, d2, d3, HBl3.out.drew⟩ | exact held8 ‹_ ∧ _ ∧ _ ∧ _ ∧ _ ∧ _ ∧ _ ∧ _ ∧ Below w.heap.size w _› hbA)
          (first
            | (go_at_call 63; refine (HPl1.out _).mono ?_; rintro e1 wA ⟨rfl, hbA⟩; skip)
            | (go_at_call 72; refine (HSt1.out _).mono ?_; rintro e1 wA ⟨rfl, hbA⟩; skip))
        have HBl2 := Lib.hid (‹_ ∧ _ ∧ _ ∧ _ ∧ _ ∧ _ ∧ _ ∧ _ ∧ Below w.heap.size w _›).2.2.2.2.2.2.2.2
        obtain ⟨c0, c1, c2, c3, d0, d1, d2, d3, _⟩ := ‹_ ∧ _ ∧ _ ∧ _ ∧ _ ∧ _ ∧ _ ∧ _ ∧ Below w.heap.size w _›
        cases s
        · go_wp2_with fail
          go_roundw
          case rel => exact ⟨q + 1, by omega, by go_num, (fun x hx j hj => by
            by_cases e : x = q
            · subst e; rw [Hp.out]; exact stands_not HI'.out Hs.out j hj
            · exact HNo.out x (by omega) j hj), c0, c1, c2, c3, d0, d1, d2, d3, HBl2.out⟩
          case measure => simp [intOf]; omega
        · go_wp2_with fail
          go_ret
          have hy : y = true := by
            rw [HYm.out, metB_true]
            obtain ⟨j, hj, e⟩ := (stands_iff HI'.out).1 Hs.out
            exact ⟨q, hlt, j, hj, by rw [Hp.out]; exact e⟩
          rw [hy]
          exact ⟨rfl, HBl2.out⟩
      · obtain rfl : q = K := by omega
        go_wp2_with fail
        go_ret
        have hy : y = false := by
          rw [HYm.out, metB_false]
          exact HNo.out
        rw [hy]
        exact ⟨rfl, HBl3.out⟩
end Go.Proofs.Ytamndbeffbcppaa
