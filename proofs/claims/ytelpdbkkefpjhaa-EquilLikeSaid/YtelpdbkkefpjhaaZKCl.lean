/-
Clone: a new matrix with a matrix' numbers. Conditions: the matrix is right, its list has at most 2^20 numbers, its sizes are at most 64.
-/
import Derived.Test.YtelpdbkkefpjhaaZKNm
import Derived.Test.YtelpdbkkefpjhaaKInv
import Derived.Laws.CopyRow
import Derived.Laws.IdiomCopy
set_option linter.unusedVariables false
set_option linter.unusedSimpArgs false
set_option linter.unnecessarySimpa false
namespace Go.Proofs.Ytelpdbkkefpjhaa
open Go.RowKit
attribute [local go_sem ↓] Go.wp_at_zero Go.wp_at_succ

theorem numbers_any (A : Option Addr) (n c : Nat) (l : List Nat) (o R C L N : Nat) (w : World) (hA : Row w A (f64s l)) (hl : l.length = n) (hnc : n ≤ c) (hn : n < 1048576) (hb : o < 9223372036854775808 ∧ R < 9223372036854775808 ∧ C < 9223372036854775808 ∧ L < 9223372036854775808) (hN : R * C = N) (hL : 1 ≤ L) (hR : R ≤ L) (hr : R = 0 ∨ C = 0 ∨ o + (C - 1) * L + (R - 1) < n) :
    Calls Try.prog 54 #[mat A n c o R C L] w fun e w' => Numd N (colsL l o R L C) w e w' := by
  have hgd := mat_right hL hR hr
  by_cases h0 : R = 0 ∨ C = 0
  · have hN0 : N = 0 := by rw [← hN]; rcases h0 with rfl | rfl <;> simp
    have hX : colsL l o R L C = [] := List.length_eq_zero_iff.1 (by rw [colsL_length, Nat.mul_comm, hN, hN0])
    refine (numbers_none A n c o R C L w hn hgd hb h0).mono ?_
    rintro e w' ⟨h1, h2⟩
    exact ⟨none, 0, by rw [h1, hN0], by rw [hX]; exact .inl rfl, (fun b o e => by cases e), h2⟩
  · have hrr : o + (C - 1) * L + (R - 1) < n := by omega
    cases A with
    | some a =>
      rcases hA with h | ⟨b, x, e, hc⟩
      · have : l = [] := by simpa [f64s] using h
        subst this
        simp at hl
        omega
      · obtain rfl : a = ⟨b, x, none⟩ := by simpa using e
        exact numbers_some b x n c l o R C L N w (.inr ⟨b, x, rfl, hc⟩) hl hnc hn hgd hb hN (by rw [← hN]; exact mat_size hR hr) (by omega) (by omega) hrr
    | none =>
      rcases hA with h | ⟨b, x, h, _⟩
      · have : l = [] := by simpa [f64s] using h
        subst this
        simp at hl
        omega
      · cases h
theorem info1_f64 : (Try.prog.info? 45).map (·.size) = some 1 := by kernel_rfl
/-- What copy comes to where all goes over. -/
theorem run_copy_all (W : World) (ty : TypeId) (g N c d : Nat) (B : Option Addr) (cur : Array Value) (M : List Nat) (hg : Blk W g 45 cur) (hcur : cur.size = N) (hM : M.length = N) (hB : Row W B (f64s M)) :
    ∃ W', (Builtin.copy_ #[22, 22] ty #[.slice (some ⟨g, 0, none⟩) N c, .slice B N d]).run Try.prog W = .ok (goInt N) W' ∧ Blk W' g 45 (f64s M).toArray ∧ Only g W W' := by
  by_cases h0 : N = 0
  · subst h0
    obtain rfl : M = [] := List.length_eq_zero_iff.1 hM
    refine ⟨W, run_copy_none W _ _ _ 45 _ _ _ _ _ _ Try.underlying22 info1_f64 rfl, ?_, Only.refl _ _⟩
    have : cur = #[] := Array.eq_empty_of_size_eq_zero hcur
    subst this; exact hg
  · rcases hB with h | ⟨b, o, rfl, hc⟩
    · have : M = [] := by simpa [f64s] using h
      subst this; simp at hM; omega
    · have hlen : (f64s M).length = N := by simp [f64s, hM]
      have h1 := run_copy_row (P := Try.prog) W 22 22 ty 45 g 0 N c ⟨b, o, none⟩ N d cur 45 (f64s M) Try.underlying22 info1_f64 hg (by rw [hlen]; exact (Nat.min_self N).symm) (fun j v h => by
        have := hc j v h
        rw [addr_at]; exact this) (by rw [hlen]; omega) (one_cells M)
      have e : (List.take 0 cur.toList ++ f64s M ++ List.drop (0 + (f64s M).length) cur.toList).toArray = (f64s M).toArray := by
        rw [hlen, List.drop_eq_nil_of_le (by simp; omega)]; simp
      rw [e, hlen] at h1
      refine ⟨_, h1, setRow_heap W g cur _ _ _ hg, ⟨rfl, rfl, rfl, by simp, fun k hk hne => setRow_other W g k _ (fun e => hne (by rw [e]))⟩⟩
/-- Before and behind the copying. -/
def CopyB (W0 : World) (g : Nat) (X : List Nat) (d4 : Bool) (W : World) : Prop := (d4 = false → Below W0.heap.size W0 W) ∧ (d4 = true → Blk W g 45 (f64s X).toArray ∧ Only g W0 W)
theorem max_int (R C : Nat) : (if (R : Int) < (C : Int) then (C : Int) else (R : Int)) = ((max R C : Nat) : Int) := by split <;> omega

theorem run_max_nat (P : Program) (ts : Array TypeId) (t : TypeId) (x y : Nat) (w : World) : (Builtin.max_ ts t #[.int .i64 (x : Int), .int .i64 (y : Int)]).run P w = .ok (.int .i64 ((max x y : Nat) : Int)) w := by
  rw [← max_int]
  simp [Builtin.max_, Builtin.max2]
attribute [local go_sem ↓] run_max_nat
set_option maxRecDepth 100000 in
set_option maxHeartbeats 2000000 in
theorem clone_ok (A : Option Addr) (n c : Nat) (l : List Nat) (o R C L N D : Nat) (w : World) (hA : Row w A (f64s l)) (hl : l.length = n) (hnc : n ≤ c) (hn : n < 1048576) (hb : o < 9223372036854775808 ∧ R ≤ 64 ∧ C ≤ 64 ∧ L < 9223372036854775808) (hN : R * C = N) (hD : max 1 R = D) (hL : 1 ≤ L) (hR : R ≤ L) (hr : R = 0 ∨ C = 0 ∨ o + (C - 1) * L + (R - 1) < n) :
    Calls Try.prog 37 #[mat A n c o R C L] w fun e w' => ∃ g, e = .returned (.tuple #[mat (some ⟨g, 0, none⟩) N N 0 R C D, .int .i64 0]) ∧ Blk w' g 45 (f64s (colsL l o R L C)).toArray ∧ w.heap.size ≤ g ∧ Below w.heap.size w w' := by
  have HG := Lib.hid (fun W => good_any A n c o R C L W (by omega) (by unfold I64; omega) (by unfold I64; omega) (by unfold I64; omega) (by unfold I64; omega))
  rw [mat_right hL hR hr] at HG
  have HDn := Lib.hid (fun W => show Calls Try.prog 22 #[.int .i64 R, .int .i64 C, .slice none 0 0] W fun e w' => ∃ g M, e = .returned (mat (some ⟨g, 0, none⟩) N N 0 R C D) ∧ M.length = N ∧ Blk w' g 45 (f64s M).toArray ∧ W.heap.size ≤ g ∧ Below W.heap.size W w' from by
    refine (dense_blk none 0 [] R C W hb.2.1 hb.2.2.1 (.inl rfl) (by simp) (by simp)).mono ?_
    rintro e w' ⟨g, M, h1, h2, h3, h4, h5⟩
    exact ⟨g, M, by rw [h1, hN, hD], h2.1.trans hN, h3, h4, h5⟩)
  have HNm := Lib.hid (fun W (hb' : Below w.heap.size w W) => numbers_any A n c l o R C L N W (hA.below hb') hl hnc hn (by omega) hN hL hR hr)
  have HX := Lib.hid (show (colsL l o R L C).length = N by rw [colsL_length, Nat.mul_comm, hN])
  have hm64 : ¬ (64 : Int) < ((max R C : Nat) : Int) := by omega
  have hm65 : decide ((64 : Int) < ((max R C : Nat) : Int)) = false := decide_eq_false hm64
  generalize colsL l o R L C = X at *
  clear hA hl hnc hn hb hN hD hL hR hr
  unfold mat at *
  go_enter Try.func37, Try.ntmps37
  have HZ0 := Lib.hid ((Blk.new w 24 #[.slice A n c, .int .i64 o, .int .i64 R, .int .i64 C, .int .i64 L]).alloc (.cells #[.slice none 0 0, .int .i64 0, .int .i64 0, .int .i64 0, .int .i64 0] 24))
  have HE0 := Lib.hid (Blk.new_ (w.alloc (.cells #[.slice A n c, .int .i64 o, .int .i64 R, .int .i64 C, .int .i64 L] 24)) 24 #[.slice none 0 0, .int .i64 0, .int .i64 0, .int .i64 0, .int .i64 0] (w.heap.size + 1) (by simp))
  have HB0 := Lib.hid (((Below.refl w.heap.size w).alloc (Nat.le_refl _) (.cells #[.slice A n c, .int .i64 o, .int .i64 R, .int .i64 C, .int .i64 L] 24)).alloc (by simp) (.cells #[.slice none 0 0, .int .i64 0, .int .i64 0, .int .i64 0, .int .i64 0] 24))
  go_wp2_with fail
  refine (HG.out _).mono ?_
  rintro e w1 ⟨rfl, hb⟩
  have HZ1 := Lib.hid (HZ0.out.nxt hb)
  have HE1 := Lib.hid (HE0.out.nxt hb)
  have HB1 := Lib.hid (below_nx HB0.out hb)
  clear hb
  obtain ⟨c0, c1, c2, c3, c4⟩ := cells5 HZ1.out
  go_wp2_with fail
  refine (HDn.out _).mono ?_
  rintro e w2 ⟨g, M, rfl, hM, hBk, hg, hb⟩
  have hgz : w.heap.size + 1 < g := by have := HE1.out.lt; omega
  have hgl := hBk.lt
  have HZ2 := Lib.hid ((HZ1.out.nxt hb).alloc (.cells #[.slice (some ⟨g, 0, none⟩) N N, .int .i64 0, .int .i64 R, .int .i64 C, .int .i64 D] 24))
  have HE2 := Lib.hid ((HE1.out.nxt hb).alloc (.cells #[.slice (some ⟨g, 0, none⟩) N N, .int .i64 0, .int .i64 R, .int .i64 C, .int .i64 D] 24))
  have HT2 := Lib.hid (Blk.new w2 24 #[.slice (some ⟨g, 0, none⟩) N N, .int .i64 0, .int .i64 R, .int .i64 C, .int .i64 D])
  have HK2 := Lib.hid (hBk.alloc (.cells #[.slice (some ⟨g, 0, none⟩) N N, .int .i64 0, .int .i64 R, .int .i64 C, .int .i64 D] 24))
  have HB2 := Lib.hid (below_al (below_nx HB1.out hb) (o := (.cells #[.slice (some ⟨g, 0, none⟩) N N, .int .i64 0, .int .i64 R, .int .i64 C, .int .i64 D] 24)))
  have HMl := Lib.hid (show (f64s M).toArray.size = N by simp [f64s, hM])
  clear hb hBk hM c0 c1 c2 c3 c4
  obtain ⟨c0, c1, c2, c3, c4⟩ := cells5 HZ2.out
  obtain ⟨t0, t1, t2, t3, t4⟩ := cells5 HT2.out
  go_wp2_with fail
  generalize hW3 : w2.alloc (.cells #[.slice (some ⟨g, 0, none⟩) N N, .int .i64 0, .int .i64 R, .int .i64 C, .int .i64 D] 24) = W3 at *
  generalize w2.heap.size = t at *
  clear hW3
  refine wp_region_inv [23, 24, 25, 26, 27] (fun d s W => (d 0 = true → s 23 = .pointer (some ⟨t, 0, none⟩)) ∧ (d 1 = true → s 24 = .slice (some ⟨g, 0, none⟩) N N) ∧ (d 2 = true → s 25 = .agg #[.slice A n c, .int .i64 o, .int .i64 R, .int .i64 C, .int .i64 L]) ∧ (d 3 = true → ∃ B, (∃ dd, s 26 = .slice B N dd) ∧ (d 4 = false → Row W B (f64s X))) ∧ (d 4 = true → s 27 = .int .i64 (N : Int)) ∧ (d 4 = true → d 0 = true ∧ d 1 = true ∧ d 2 = true ∧ d 3 = true) ∧ (d 1 = true → d 0 = true) ∧ (d 3 = true → d 2 = true) ∧ CopyB W3 g X (d 4) W)
    rfl (by kernel_rfl) ?_ ?_ ?_
  · exact ⟨by simp, by simp, by simp, by simp, by simp, by simp, by simp, by simp, ⟨fun _ => (Below.refl _ _).drew, fun h => by cases h⟩⟩
  · refine ⟨?_, ?_, ?_, ?_, ?_, trivial⟩
    all_goals
      intro d s W hJ hfr hd hdep
      simp only [List.mem_cons, forall_eq_or_imp, List.not_mem_nil, false_implies, implies_true, and_true, Region.binds] at hdep
      have f4 := hfr 4 (by decide)
      have f1 := hfr 1 (by decide)
      simp at f4 f1 hdep
      obtain ⟨h0, h1, h2, h3, h4, x0, x1, x2, hT⟩ := hJ
      unfold OpSteps
    · simp [go_sem, evS, f4, f1]
      exact ⟨fun _ => by simp [sput], fun h => by simpa [sput] using h1 (by simpa [did] using h), fun h => by simpa [sput] using h2 (by simpa [did] using h), fun h => by
        obtain ⟨B, ⟨dd, q1⟩, q2⟩ := h3 (by simpa [did] using h)
        exact ⟨B, ⟨dd, by simpa [sput] using q1⟩, fun hh => q2 (by simpa [did] using hh)⟩, fun h => by simpa [sput] using h4 (by simpa [did] using h), fun h => by have := x0 (by simpa [did] using h); simp [did, this], fun _ => by simp [did], by simpa [sput, did] using x2, by simpa [did] using hT⟩
    · have fa0 := h0 (by simp [hdep])
      have hd4 : d 4 = false := by
        cases h : d 4
        · rfl
        · have h8 := (x0 h).2.1; rw [hd] at h8; cases h8
      have hTb := hT.1 hd4
      obtain ⟨p0, p1, p2, p3, p4⟩ := cells5 (HT2.out.nxt hTb)
      simp [go_sem, evS, f4, f1, fa0, p0]
      exact ⟨fun h => by simpa [sput] using h0 (by simpa [did] using h), fun _ => by simp [sput], fun h => by simpa [sput] using h2 (by simpa [did] using h), fun h => by
        obtain ⟨B, ⟨dd, q1⟩, q2⟩ := h3 (by simpa [did] using h)
        exact ⟨B, ⟨dd, by simpa [sput] using q1⟩, fun hh => q2 (by simpa [did] using hh)⟩, fun h => by simpa [sput] using h4 (by simpa [did] using h), fun h => by have := x0 (by simpa [did] using h); simp [did, this], fun _ => by simp [did, hdep], by simpa [sput, did] using x2, by simpa [did] using hT⟩
    · have hd4 : d 4 = false := by
        cases h : d 4
        · rfl
        · have h8 := (x0 h).2.2.1; rw [hd] at h8; cases h8
      have hTb := hT.1 hd4
      obtain ⟨p0, p1, p2, p3, p4⟩ := cells5 (HZ2.out.nxt hTb)
      simp [go_sem, evS, f4, f1, p0, p1, p2, p3, p4]
      exact ⟨fun h => by simpa [sput] using h0 (by simpa [did] using h), fun h => by simpa [sput] using h1 (by simpa [did] using h), fun _ => by simp [sput], fun h => by
        obtain ⟨B, ⟨dd, q1⟩, q2⟩ := h3 (by simpa [did] using h)
        exact ⟨B, ⟨dd, by simpa [sput] using q1⟩, fun hh => q2 (by simpa [did] using hh)⟩, fun h => by simpa [sput] using h4 (by simpa [did] using h), fun h => by have := x0 (by simpa [did] using h); simp [did, this], by simpa [sput, did] using x1, fun _ => by simp [did], by simpa [did] using hT⟩
    · have fa2 := h2 (by simp [hdep])
      have hd4 : d 4 = false := by
        cases h : d 4
        · rfl
        · have h8 := (x0 h).2.2.2; rw [hd] at h8; cases h8
      have hTb := hT.1 hd4
      simp [go_sem, evS, f4, f1, fa2]
      refine (HNm.out W (below_nx HB2.out hTb)).mono ?_
      rintro e W' ⟨B, dd, rfl, hRw, _, hb⟩
      refine ⟨_, rfl, ?_⟩
      exact ⟨fun h => by simpa [sput] using h0 (by simpa [did] using h), fun h => by simpa [sput] using h1 (by simpa [did] using h), fun h => by simpa [sput] using h2 (by simpa [did] using h), fun _ => ⟨B, ⟨dd, by simp [sput]⟩, fun _ => hRw⟩, fun h => by simpa [sput] using h4 (by simpa [did] using h), fun h => by have := x0 (by simpa [did] using h); simp [did, this], by simpa [sput, did] using x1, fun _ => by simp [did, hdep], ⟨fun _ => below_nx hTb hb, fun h => by simp [did, hd4] at h⟩⟩
    · have fa1 := h1 (by simp [hdep])
      have fa3 := h3 (by simp [hdep])
      have e0 : d 0 = true := x1 (by simp [hdep])
      have e1 : d 1 = true := by simp [hdep]
      have e3 : d 3 = true := by simp [hdep]
      have e2 : d 2 = true := x2 e3
      obtain ⟨B, ⟨dd, q1⟩, q2⟩ := fa3
      have hTb := hT.1 hd
      obtain ⟨W', hrun, hBk, hOn⟩ := run_copy_all W 3 g N N dd B _ X (HK2.out.nxt hTb) HMl.out HX.out (q2 hd)
      simp [go_sem, evS, f4, f1, fa1, q1, hrun]
      exact ⟨fun h => by simpa [sput] using h0 (by simpa [did] using h), fun h => by simpa [sput] using h1 (by simpa [did] using h), fun h => by simpa [sput] using h2 (by simpa [did] using h), fun _ => ⟨B, ⟨dd, by simpa [sput] using q1⟩, fun h => by simp [did] at h⟩, fun _ => by simp [sput], fun _ => ⟨by simp [did, e0], by simp [did, e1], by simp [did, e2], by simp [did, e3]⟩, by simpa [sput, did] using x1, by simpa [sput, did] using x2, ⟨fun h => by simp [did] at h, fun _ => ⟨hBk, (Only.of_below hTb).trans hOn⟩⟩⟩
  intro d s W hJ hd
  obtain ⟨h0, h1, h2, h3, h4, x0, x1, x2, hT⟩ := hJ
  have hEnd := hT.2 (hd 4 (by decide))
  have HF := Lib.hid hEnd.1
  have HO := Lib.hid hEnd.2
  clear h0 h1 h2 h3 h4 x0 x1 x2 hT hEnd hd
  simp [setAll]
  have HZ3 := Lib.hid (HO.out.blk (by omega) HZ2.out)
  have HE3 := Lib.hid (HO.out.blk (by omega) HE2.out)
  have HT3 := Lib.hid (HO.out.blk (by omega) HT2.out)
  have HB3 := Lib.hid (HO.out.below HB2.out HB2.out.size (by omega))
  clear c0 c1 c2 c3 c4 t0 t1 t2 t3 t4
  generalize W = W4 at *
  obtain ⟨t0, t1, t2, t3, t4⟩ := cells5 HT3.out
  obtain ⟨z0, z1, z2, z3, z4⟩ := cells5 HE3.out
  obtain ⟨y0, y1, y2, y3, y4⟩ := frozen5 HE3.out
  have HSt := Lib.hid (HE3.out.store5 (.slice (some ⟨g, 0, none⟩) N N) (.int .i64 0) (.int .i64 R) (.int .i64 C) (.int .i64 D))
  have hgq : g ≠ w.heap.size + 1 := by omega
  have hzq : w.heap.size ≤ w.heap.size + 1 := Nat.le_succ _
  have HKe := Lib.hid (show Blk (((((W4.setCell ⟨w.heap.size + 1, 0, none⟩ (.slice (some ⟨g, 0, none⟩) N N)).setCell ⟨w.heap.size + 1, 1, none⟩ (.int .i64 0)).setCell ⟨w.heap.size + 1, 2, none⟩ (.int .i64 R)).setCell ⟨w.heap.size + 1, 3, none⟩ (.int .i64 C)).setCell ⟨w.heap.size + 1, 4, none⟩ (.int .i64 D)) g 45 (f64s X).toArray from
    (((((HF.out.other (p := ⟨w.heap.size + 1, 0, none⟩) hgq (.slice (some ⟨g, 0, none⟩) N N)).other (p := ⟨w.heap.size + 1, 1, none⟩) hgq (.int .i64 0)).other (p := ⟨w.heap.size + 1, 2, none⟩) hgq (.int .i64 R)).other (p := ⟨w.heap.size + 1, 3, none⟩) hgq (.int .i64 C)).other (p := ⟨w.heap.size + 1, 4, none⟩) hgq (.int .i64 D)))
  have HBe := Lib.hid (show Below w.heap.size w (((((W4.setCell ⟨w.heap.size + 1, 0, none⟩ (.slice (some ⟨g, 0, none⟩) N N)).setCell ⟨w.heap.size + 1, 1, none⟩ (.int .i64 0)).setCell ⟨w.heap.size + 1, 2, none⟩ (.int .i64 R)).setCell ⟨w.heap.size + 1, 3, none⟩ (.int .i64 C)).setCell ⟨w.heap.size + 1, 4, none⟩ (.int .i64 D)) from
    (((((HB3.out.setCell (p := ⟨w.heap.size + 1, 0, none⟩) hzq (.slice (some ⟨g, 0, none⟩) N N)).setCell (p := ⟨w.heap.size + 1, 1, none⟩) hzq (.int .i64 0)).setCell (p := ⟨w.heap.size + 1, 2, none⟩) hzq (.int .i64 R)).setCell (p := ⟨w.heap.size + 1, 3, none⟩) hzq (.int .i64 C)).setCell (p := ⟨w.heap.size + 1, 4, none⟩) hzq (.int .i64 D)))
  go_wp2_with fail
  obtain ⟨j0, j1, j2, j3, j4⟩ := cells5 HSt.out
  exact bodyPost_ret (v := .tuple #[.agg #[.slice (some ⟨g, 0, none⟩) N N, .int .i64 0, .int .i64 R, .int .i64 C, .int .i64 D], .int .i64 0]) (by simp [results, Try.results37, go_sem, j0, j1, j2, j3, j4]) rfl ⟨g, rfl, HKe.out, by omega, HBe.out⟩
end Go.Proofs.Ytelpdbkkefpjhaa
