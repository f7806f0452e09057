/-
Dense: a new matrix with the numbers that are told, row by row. Conditions: the words are below 2^64, the list's length below 2^63.
-/
import Derived.Test.YtelpdbkkefpjhaaWKc
set_option linter.unusedVariables false
namespace Go.Proofs.Ytelpdbkkefpjhaa
open Go.RowKit
attribute [local go_sem ↓] Go.wp_at_zero Go.wp_at_succ

theorem fmade_zero (n : Nat) : madeCells #[.float .f64 0] n = (f64s (List.replicate n 0)).toArray := by
  refine Array.ext_getElem? fun i => ?_
  rw [List.getElem?_toArray]
  unfold madeCells f64s
  by_cases h : i < n
  · simp [h, Nat.mod_one]
  · simp [h]
theorem info_f64 : (Try.prog.info? 45).map (fun i => (i.zero, i.size, i.bytes)) = some (some (.float .f64 0), 1, 8) := by kernel_rfl
theorem frun_make (n : Nat) (hn : n ≤ 1099511627776) (W : World) :
    (Instr.makeSlice 22 (.int .i64 (n : Int)) (.int .i64 (n : Int))).run Try.prog W = .ok (.slice (some ⟨W.heap.size, 0, none⟩) n n) (W.alloc (.cells (f64s (List.replicate n 0)).toArray 45)) := by
  rw [← fmade_zero]
  exact run_make_row' _ _ _ 8 Try.underlying22 info_f64 rfl _ _ n (by omega) (by omega) W
theorem f64s_arr (M : List Nat) (i : Nat) (h : i < M.length) : (f64s M).toArray[i]? = some (.float .f64 M[i]) := by
  rw [List.getElem?_toArray]; exact f64s_get M i h
theorem f64s_set (M : List Nat) (i v : Nat) : (f64s M).toArray.setIfInBounds i (.float .f64 v) = (f64s (M.set i v)).toArray := by
  simp [f64s, List.map_set]
theorem row_of_blk {w : World} {g : Nat} {t : TypeId} {M : List Nat} (h : Blk w g t (f64s M).toArray) : Row w (some ⟨g, 0, none⟩) (f64s M) :=
  .inr ⟨g, 0, rfl, fun i v hi => by rw [Nat.zero_add, h.cell i]; rw [List.getElem?_toArray]; exact hi⟩

theorem frozen5 {w : World} {g : Nat} {t : TypeId} {v0 v1 v2 v3 v4 : Value} (h : Blk w g t #[v0, v1, v2, v3, v4]) :
    w.frozen? ⟨g, 0, none⟩ = false ∧ w.frozen? ⟨g, 1, none⟩ = false ∧ w.frozen? ⟨g, 2, none⟩ = false ∧ w.frozen? ⟨g, 3, none⟩ = false ∧ w.frozen? ⟨g, 4, none⟩ = false :=
  ⟨h.frozen 0, h.frozen 1, h.frozen 2, h.frozen 3, h.frozen 4⟩
theorem Blk.store5 {w : World} {g : Nat} {t : TypeId} {x0 x1 x2 x3 x4 : Value} (h : Blk w g t #[x0, x1, x2, x3, x4]) (u0 u1 u2 u3 u4 : Value) :
    Blk (((((w.setCell ⟨g, 0, none⟩ u0).setCell ⟨g, 1, none⟩ u1).setCell ⟨g, 2, none⟩ u2).setCell ⟨g, 3, none⟩ u3).setCell ⟨g, 4, none⟩ u4) g t #[u0, u1, u2, u3, u4] := by
  have := ((((h.set_ 0 u0).set_ 1 u1).set_ 2 u2).set_ 3 u3).set_ 4 u4
  simpa using this

theorem wrapi {z : Int} (h0 : -9223372036854775808 ≤ z) (h1 : z < 9223372036854775808) : IntKind.i64.wrap z = z := by
  simp [IntKind.wrap, IntKind.bits, IntKind.signed]; omega
/-- The place of the q-th number, row by row, of a matrix of r rows and k columns. -/
def spot (r k q : Nat) : Nat := q / k + q % k * r
theorem spot_lt {r k q : Nat} (h : q < r * k) : spot r k q < r * k := by
  unfold spot
  have hk : 0 < k := by rcases Nat.eq_zero_or_pos k with rfl | h0 <;> omega
  have h1 : q / k < r := Nat.div_lt_of_lt_mul (by rwa [Nat.mul_comm])
  have h2 : q % k < k := Nat.mod_lt _ hk
  calc q / k + q % k * r < r + q % k * r := by omega
    _ = (q % k + 1) * r := by rw [Nat.add_mul, Nat.one_mul, Nat.add_comm]
    _ ≤ k * r := Nat.mul_le_mul_right _ h2
    _ = r * k := Nat.mul_comm _ _
theorem spot_inj {r k q q' : Nat} (h : q < r * k) (h' : q' < r * k) (e : spot r k q = spot r k q') : q = q' := by
  unfold spot at e
  have hk : 0 < k := by rcases Nat.eq_zero_or_pos k with rfl | h0 <;> omega
  have h1 : q / k < r := Nat.div_lt_of_lt_mul (by rwa [Nat.mul_comm])
  have h1' : q' / k < r := Nat.div_lt_of_lt_mul (by rwa [Nat.mul_comm])
  have a1 : (q / k + q % k * r) % r = q / k := by rw [Nat.add_mul_mod_self_right, Nat.mod_eq_of_lt h1]
  have a2 : (q' / k + q' % k * r) % r = q' / k := by rw [Nat.add_mul_mod_self_right, Nat.mod_eq_of_lt h1']
  have b1 : (q / k + q % k * r) / r = q % k := by rw [Nat.add_mul_div_right _ _ (by omega), Nat.div_eq_of_lt h1, Nat.zero_add]
  have b2 : (q' / k + q' % k * r) / r = q' % k := by rw [Nat.add_mul_div_right _ _ (by omega), Nat.div_eq_of_lt h1', Nat.zero_add]
  have c1 : q / k = q' / k := by rw [← a1, e, a2]
  have c2 : q % k = q' % k := by rw [← b1, e, b2]
  rw [← Nat.div_add_mod q k, ← Nat.div_add_mod q' k, c1, c2]

/-- The matrix' list when the first q numbers stand in it. -/
def Dens (l : List Nat) (r k q : Nat) (M : List Nat) : Prop := M.length = r * k ∧ ∀ p, p < r * k → M.getD (spot r k p) 0 = if p < q then l.getD p 0 else 0
theorem Dens.zero (l : List Nat) (r k : Nat) : Dens l r k 0 (List.replicate (r * k) 0) := by
  refine ⟨by simp, fun p hp => ?_⟩
  have := spot_lt hp
  simp [List.getD, this]
theorem Dens.step {l : List Nat} {r k q : Nat} {M : List Nat} (h : Dens l r k q M) (hq : q < r * k) : Dens l r k (q + 1) (M.set (spot r k q) (l.getD q 0)) := by
  refine ⟨by rw [List.length_set]; exact h.1, fun p hp => ?_⟩
  have hs := spot_lt hq
  by_cases e : p = q
  · subst e
    simp [List.getD, h.1, hs]
  · have hne : spot r k q ≠ spot r k p := fun e' => e (spot_inj hp hq e'.symm)
    rw [List.getD, List.getElem?_set_ne hne]
    have := h.2 p hp
    rw [List.getD] at this
    rw [this]
    by_cases hpq : p < q
    · rw [if_pos hpq, if_pos (by omega)]
    · rw [if_neg hpq, if_neg (by omega)]
/-- The matrix' list in the end. -/
def Dense (l : List Nat) (r k : Nat) (M : List Nat) : Prop := M.length = r * k ∧ ∀ p, p < r * k → M.getD (spot r k p) 0 = l.getD p 0
theorem Dens.done {l : List Nat} {r k q : Nat} {M : List Nat} (h : Dens l r k q M) (hq : q = min l.length (r * k)) : Dense l r k M := by
  refine ⟨h.1, fun p hp => ?_⟩
  rw [h.2 p hp]
  by_cases hpq : p < q
  · rw [if_pos hpq]
  · rw [if_neg hpq]
    have : l.length ≤ p := by omega
    simp [List.getD, List.getElem?_eq_none this]

set_option maxHeartbeats 1000000 in
theorem dense_blk (A : Option Addr) (c : Nat) (l : List Nat) (r k : Nat) (w : World) (hr : r ≤ 64) (hk : k ≤ 64) (hA : Row w A (f64s l)) (hl : l.length < 9223372036854775808) (hlc : l.length ≤ c) :
    Calls Try.prog 22 #[.int .i64 r, .int .i64 k, .slice A l.length c] w fun e w' => ∃ g M, e = .returned (mat (some ⟨g, 0, none⟩) (r * k) (r * k) 0 r k (max 1 r : Nat)) ∧ Dense l r k M ∧ Blk w' g 45 (f64s M).toArray ∧ w.heap.size ≤ g ∧ Below w.heap.size w w' := by
  have hrk : r * k ≤ 4096 := by calc r * k ≤ 64 * 64 := Nat.mul_le_mul hr hk
    _ = 4096 := rfl
  obtain ⟨N, hN⟩ : ∃ N, r * k = N := ⟨_, rfl⟩
  have hmk := fun V => frun_make N (by omega) V
  have e1 : (r : Int) * (k : Int) = (N : Int) := by rw [← hN]; simp
  have d1 : decide ((r : Int) < 0) = false := by simp
  have d2 : decide ((64 : Int) < (r : Int)) = false := by simp; omega
  have d3 : decide ((k : Int) < 0) = false := by simp
  have d4 : decide ((64 : Int) < (k : Int)) = false := by simp; omega
  go_enter Try.func22, Try.ntmps22
  rw [hN] at hrk
  rw [hN]
  generalize hn : l.length = n at *
  have HN := Lib.hid hN
  have Hn := Lib.hid hn
  have HA := Lib.hid hA
  obtain ⟨D, hD⟩ : ∃ D, max 1 r = D := ⟨_, rfl⟩
  have eD : (if (1 : Int) < (r : Int) then (r : Int) else 1) = (D : Int) := by rw [← hD]; split <;> omega
  have HD := Lib.hid hD
  rw [hD]
  obtain ⟨m, hm⟩ : ∃ m, min n N = m := ⟨_, rfl⟩
  have em : (if (N : Int) < (n : Int) then (N : Int) else (n : Int)) = (m : Int) := by rw [← hm]; split <;> omega
  have HM := Lib.hid hm
  have hmc : m ≤ c := by omega
  have hmc1 : (m : Int) ≤ (c : Int) := by omega
  have hm0 : (0 : Int) ≤ (m : Int) := by omega
  clear hN hn hA hD hm hlc
  have hcase : (∃ a, A = some a) ∨ (A = none ∧ m = 0 ∧ n = 0) := by
    cases A with
    | some a => exact .inl ⟨a, rfl⟩
    | none =>
      refine .inr ⟨rfl, ?_⟩
      rcases HA.out with h | ⟨b, o, h, _⟩
      · have h1 : l = [] := by simpa [f64s] using h
        subst h1
        have h2 := Hn.out
        have h3 := HM.out
        simp at h2
        constructor <;> omega
      · cases h
  go_upto_region 4 with fail
  have hB0 := ((Blk.new w 24 #[.slice none 0 0, .int .i64 0, .int .i64 0, .int .i64 0, .int .i64 0]).alloc (.cells (f64s (List.replicate N 0)).toArray 45)).alloc (.cells #[.slice (some ⟨w.heap.size + 1, 0, none⟩) N N, .int .i64 0, .int .i64 r, .int .i64 k, .int .i64 D] 24)
  have hB1 := (Blk.new_ (w.alloc (.cells #[.slice none 0 0, .int .i64 0, .int .i64 0, .int .i64 0, .int .i64 0] 24)) 45 (f64s (List.replicate N 0)).toArray (w.heap.size + 1) (by simp)).alloc (.cells #[.slice (some ⟨w.heap.size + 1, 0, none⟩) N N, .int .i64 0, .int .i64 r, .int .i64 k, .int .i64 D] 24)
  have hB2 := Blk.new_ ((w.alloc (.cells #[.slice none 0 0, .int .i64 0, .int .i64 0, .int .i64 0, .int .i64 0] 24)).alloc (.cells (f64s (List.replicate N 0)).toArray 45)) 24 #[.slice (some ⟨w.heap.size + 1, 0, none⟩) N N, .int .i64 0, .int .i64 r, .int .i64 k, .int .i64 D] (w.heap.size + 1 + 1) (by simp)
  have hbl : Below w.heap.size w (((w.alloc (.cells #[.slice none 0 0, .int .i64 0, .int .i64 0, .int .i64 0, .int .i64 0] 24)).alloc (.cells (f64s (List.replicate N 0)).toArray 45)).alloc (.cells #[.slice (some ⟨w.heap.size + 1, 0, none⟩) N N, .int .i64 0, .int .i64 r, .int .i64 k, .int .i64 D] 24)) :=
    (((Below.refl _ _).alloc (Nat.le_refl _) _).alloc (by simp) _).alloc (by simp; omega) _
  have HB0 := Lib.hid hB0
  have HB1 := Lib.hid hB1
  have HB2 := Lib.hid hB2
  have HBl := Lib.hid hbl
  clear hB0 hB1 hB2 hbl
  generalize hW3 : (((w.alloc (.cells #[.slice none 0 0, .int .i64 0, .int .i64 0, .int .i64 0, .int .i64 0] 24)).alloc (.cells (f64s (List.replicate N 0)).toArray 45)).alloc (.cells #[.slice (some ⟨w.heap.size + 1, 0, none⟩) N N, .int .i64 0, .int .i64 r, .int .i64 k, .int .i64 D] 24)) = W3 at *
  clear hW3
  generalize hz : w.heap.size = z at *
  have HZ := Lib.hid hz
  clear hz
  go_cut [41, 42, 43] (fun s q i wx => ∃ c', s = .slice A m c' ∧ q = .int .i64 (m : Int) ∧ i = .int .i64 0 ∧ wx = W3)
  case first =>
    have HM2 := HM.out
    rcases hcase with ⟨a, rfl⟩ | ⟨rfl, rfl, rfl⟩
    · by_cases hlt : (N : Int) < (n : Int)
      · obtain rfl : m = N := by omega
        go_wp2_with fail
        go_meet
        exact ⟨c, rfl, rfl, rfl, rfl⟩
      · obtain rfl : m = n := by omega
        go_wp2_with fail
        go_meet
        exact ⟨c, rfl, rfl, rfl, rfl⟩
    · have hlt : ¬ (N : Int) < ((0 : Nat) : Int) := by omega
      go_wp2_with fail
      go_meet
      exact ⟨_, rfl, rfl, rfl, rfl⟩
  case rest =>
    obtain ⟨c', rfl, rfl, rfl, rfl⟩ := hcut
    go_wp2_with fail
    go_loopw [43] (fun i wr => ∃ (q : Nat) (M : List Nat), q ≤ m ∧ i = .int .i64 (q : Int) ∧ Dens l r k q M ∧ Blk wr (z + 1) 45 (f64s M).toArray ∧ Blk wr (z + 1 + 1) 24 #[.slice (some ⟨z + 1, 0, none⟩) N N, .int .i64 0, .int .i64 r, .int .i64 k, .int .i64 D] ∧ Blk wr z 24 #[.slice none 0 0, .int .i64 0, .int .i64 0, .int .i64 0, .int .i64 0] ∧ Below z w wr) (fun i _ => m - (intOf i).toNat)
    case atStart => exact ⟨0, List.replicate N 0, Nat.zero_le _, rfl, by rw [← HN.out]; exact Dens.zero l r k, HB1.out, HB2.out, HB0.out, HBl.out⟩
    case round =>
      obtain ⟨q, M, hqm, rfl, hd, b1, b2, b0, hbl⟩ := hrel
      by_cases hlt : q < m
      · have h1 := HM.out
        have h2 := HN.out
        have hqn : q < l.length := by rw [Hn.out]; omega
        have hqN : q < r * k := by omega
        obtain ⟨b, o, rfl, _, hcell0⟩ := HA.out.at_ (f64s_get l q hqn)
        have hcell := cell_below hcell0 (show Below w.heap.size w wr by rw [HZ.out]; exact hbl)
        have hk0 : 0 < k := Nat.pos_of_ne_zero (by rintro rfl; simp at hqN)
        have hr0 : 0 < r := Nat.pos_of_ne_zero (by rintro rfl; simp at hqN)
        obtain rfl : r = D := by have := HD.out; omega
        have hsp := spot_lt hqN
        have hstep := hd.step hqN
        have hml := hd.1
        have e6 : ((k : Int) == 0) = false := by simp; omega
        have e6n : (k == 0) = false := by simp; omega
        have e6m : ¬ k = 0 := by omega
        obtain ⟨a1, ha1⟩ : ∃ a1, q / k = a1 := ⟨_, rfl⟩
        obtain ⟨a2, ha2⟩ : ∃ a2, q % k = a2 := ⟨_, rfl⟩
        obtain ⟨a3, ha3⟩ : ∃ a3, a2 * r = a3 := ⟨_, rfl⟩
        have e7 : (q : Int) / (k : Int) = (a1 : Int) := by rw [← ha1]; simp
        have e7' : (q : Int).tmod (k : Int) = (a2 : Int) := by rw [← ha2, Int.tmod_eq_emod_of_nonneg (by omega)]; simp
        have e7a : (a2 : Int) * (r : Int) = (a3 : Int) := by rw [← ha3]; simp
        have e7b : a1 + a3 = spot r k q := by unfold spot; rw [ha1, ha2, ha3]
        have e7c : (a1 : Int) + (a3 : Int) = ((spot r k q : Nat) : Int) := by omega
        have w1 : IntKind.i64.wrap (a1 : Int) = (a1 : Int) := wrapi (by omega) (by omega)
        have w3 : IntKind.i64.wrap (a3 : Int) = (a3 : Int) := wrapi (by omega) (by omega)
        have w4 : IntKind.i64.wrap ((spot r k q : Nat) : Int) = ((spot r k q : Nat) : Int) := wrapi (by omega) (by omega)
        clear ha1 ha2 ha3
        have hv : l.getD q 0 = l[q] := by simp [List.getD, hqn]
        rw [hv] at hstep
        have hset := b1.set_ (spot r k q) (.float .f64 l[q])
        rw [f64s_set] at hset
        generalize l[q] = v at *
        have c1 := b1.cell (spot r k q)
        have hsl : spot r k q < M.length := by omega
        rw [f64s_arr M _ hsl] at c1
        obtain ⟨x, hx⟩ : ∃ x, M[spot r k q] = x := ⟨_, rfl⟩
        rw [hx] at c1
        clear hx hsl
        have hfz := b1.frozen (spot r k q)
        generalize spot r k q = s at *
        obtain ⟨k0, k1, k2, k3, k4⟩ := cells5 b2
        have e8 : (s : Int) < (N : Int) := by omega
        have e8' : (0 : Int) ≤ (s : Int) := by omega
        have e8n : s < N := by omega
        clear e7b
        have e9 : (q : Int) < (m : Int) := by omega
        have HStep := Lib.hid hstep
        have HSet := Lib.hid hset
        have Hb2 := Lib.hid b2
        have Hb0 := Lib.hid b0
        have Hbl2 := Lib.hid hbl
        clear hstep hset b2 b0 hbl hd hsp hml b1 hcell0
        go_wp2_with fail
        go_region_with (fail)
        all_goals
         go_wp2_with fail
         go_roundw
         case rel => exact ⟨q + 1, M.set s v, by omega, by go_num, HStep.out, HSet.out, (Hb2.out.other (by simp) _), (Hb0.out.other (by simp) _), (Hbl2.out.setCell (by simp) _).drew⟩
         case measure => simp [intOf]; omega
      · obtain rfl : q = m := by omega
        obtain ⟨k0, k1, k2, k3, k4⟩ := cells5 b2
        obtain ⟨f0, f1, f2, f3, f4⟩ := frozen5 b0
        have Hd := Lib.hid (hd.done (by have h1 := HM.out; have h2 := HN.out; have h3 := Hn.out; rw [h2, h3]; exact h1.symm))
        have hst := b0.store5 (.slice (some ⟨z + 1, 0, none⟩) N N) (.int .i64 0) (.int .i64 r) (.int .i64 k) (.int .i64 D)
        have HSt := Lib.hid hst
        obtain ⟨z0, z1, z2, z3, z4⟩ := cells5 b0
        have Hb1 := Lib.hid b1
        have Hbl2 := Lib.hid hbl
        have e9 : (q : Int) < (q : Int) ↔ False := by simp
        clear hst hd b1 b2 hbl b0 hmk hcase eD em e1 d1 d2 d3 d4 hmc hmc1 hm0
        go_wp2_with fail
        have HRow := Lib.hid (show Blk (((((wr.setCell ⟨z, 0, none⟩ (.slice (some ⟨z + 1, 0, none⟩) N N)).setCell ⟨z, 1, none⟩ (.int .i64 0)).setCell ⟨z, 2, none⟩ (.int .i64 r)).setCell ⟨z, 3, none⟩ (.int .i64 k)).setCell ⟨z, 4, none⟩ (.int .i64 D)) (z + 1) 45 (f64s M).toArray from (((((Hb1.out.other (p := ⟨z, _, none⟩) (by simp) (.slice (some ⟨z + 1, 0, none⟩) N N)).other (p := ⟨z, _, none⟩) (by simp) (.int .i64 0)).other (p := ⟨z, _, none⟩) (by simp) (.int .i64 r)).other (p := ⟨z, _, none⟩) (by simp) (.int .i64 k)).other (p := ⟨z, _, none⟩) (by simp) (.int .i64 D)))
        have HBel := Lib.hid (show Below z w (((((wr.setCell ⟨z, 0, none⟩ (.slice (some ⟨z + 1, 0, none⟩) N N)).setCell ⟨z, 1, none⟩ (.int .i64 0)).setCell ⟨z, 2, none⟩ (.int .i64 r)).setCell ⟨z, 3, none⟩ (.int .i64 k)).setCell ⟨z, 4, none⟩ (.int .i64 D)) from (((((Hbl2.out.setCell (p := ⟨z, 0, none⟩) (by simp) (.slice (some ⟨z + 1, 0, none⟩) N N)).setCell (p := ⟨z, 1, none⟩) (by simp) (.int .i64 0)).setCell (p := ⟨z, 2, none⟩) (by simp) (.int .i64 r)).setCell (p := ⟨z, 3, none⟩) (by simp) (.int .i64 k)).setCell (p := ⟨z, 4, none⟩) (by simp) (.int .i64 D)))
        generalize (((((wr.setCell ⟨z, 0, none⟩ (.slice (some ⟨z + 1, 0, none⟩) N N)).setCell ⟨z, 1, none⟩ (.int .i64 0)).setCell ⟨z, 2, none⟩ (.int .i64 r)).setCell ⟨z, 3, none⟩ (.int .i64 k)).setCell ⟨z, 4, none⟩ (.int .i64 D)) = W9 at *
        obtain ⟨j0, j1, j2, j3, j4⟩ := cells5 HSt.out
        rw [HZ.out]
        refine bodyPost_ret (v := mat (some ⟨z + 1, 0, none⟩) N N 0 r k D) (by simp [results, Try.results22, go_sem, j0, j1, j2, j3, j4, mat]) rfl ⟨z + 1, M, rfl, Hd.out, HRow.out, by omega, HBel.out⟩
end Go.Proofs.Ytelpdbkkefpjhaa
