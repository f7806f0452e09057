/-
GemmWhole: the closure that makes a matrix. Conditions: as each says.
-/
import Derived.Test.YtbbgldelebgnfaaZGhC
import Derived.Test.YtbbgldelebgnfaaUbac
set_option linter.unusedVariables false
set_option linter.unusedSimpArgs false
set_option linter.unnecessarySimpa false
namespace Go.Proofs.Ytbbgldelebgnfaa
open Go.RowKit
attribute [local go_sem ↓] Go.wp_at_zero Go.wp_at_succ

theorem i8_ate {A : Option Addr} {l : List Int} {n k : Nat} {W : World} (h : Row W A (i8s l)) (hl : l.length = n) (hk : k < n) : ∃ b o, A = some ⟨b, o, none⟩ ∧ W.cell? ⟨b, o + k, none⟩ = some (.int .i8 (l.getD k 0)) := by
  obtain ⟨b, o, e, _, hc⟩ := h.at_ (i8s_get l k (by omega))
  refine ⟨b, o, e, ?_⟩
  have : l.getD k 0 = l[k]'(by omega) := by simp [List.getD, show k < l.length by omega]
  rw [this]
  exact hc
theorem gemake_enters : Enters Try.prog 19 := enters_of Try.func19 (by kernel_rfl) rfl
/-- Each is a small whole number. -/
def SmI (M : List Nat) : Prop := ∀ p, p < M.length → ∃ z : Int, z.natAbs ≤ 50 ∧ EX (M.getD p 0) z
theorem repl0 (N p : Nat) : (List.replicate N 0).getD p 0 = 0 := by
  simp only [List.getD, List.getElem?_replicate]
  split <;> rfl
theorem wk_next {k n : Nat} (h : k < n) (hn : n < 9223372036854775808) : wrap64 ((k : Int) + 1) = ((k + 1 : Nat) : Int) ∧ IntKind.i64.wrap ((k : Int) + 1) = ((k + 1 : Nat) : Int) := by
  have e : (k : Int) + 1 = ((k + 1 : Nat) : Int) := by omega
  rw [e]
  exact ⟨wrap_id (by unfold I64; omega), wrapi (by omega) (by omega)⟩
theorem smI_zero (N : Nat) : SmI (List.replicate N 0) := fun p hp => ⟨0, by decide, by
  rw [repl0]; exact EX.zero⟩
theorem SmI.set_ {M : List Nat} (h : SmI M) (q v : Nat) {z : Int} (hz : z.natAbs ≤ 50) (hv : EX v z) : SmI (M.set q v) := fun p hp => by
  rw [List.length_set] at hp
  by_cases e : q = p
  · subst e; rw [getD_set_self hp]; exact ⟨z, hz, hv⟩
  · rw [getD_set_ne _ e]; exact h p hp
theorem SmI.zs {M : List Nat} {R C N : Nat} (h : SmI M) (hl : M.length = N) (hN : R * C = N) (hR : 1 ≤ R) : Wds M ∧ ∃ Z : Nat → Nat → Int, (∀ i, i < R → ∀ j, j < C → EX (M.getD (0 + i + j * R) 0) (Z i j)) ∧ ∀ i j, (Z i j).natAbs ≤ 50 := by
  classical
  refine ⟨fun v hv => ?_, fun i j => if h : ∃ z : Int, z.natAbs ≤ 50 ∧ EX (M.getD (0 + i + j * R) 0) z then Classical.choose h else 0, fun i hi j hj => ?_, fun i j => ?_⟩
  · obtain ⟨x, hx, rfl⟩ := List.mem_iff_getElem.1 hv
    rw [← getD_of_lt hx]
    obtain ⟨z, _, hz⟩ := h x hx
    exact hz.1
  · have hp : 0 + i + j * R < M.length := by
      rw [hl, ← hN]
      have h1 : (j + 1) * R ≤ C * R := Nat.mul_le_mul_right _ hj
      rw [Nat.add_mul, Nat.one_mul] at h1
      rw [Nat.mul_comm R C]
      omega
    have hq := h _ hp
    show EX _ (if h : _ then _ else _)
    rw [dif_pos hq]
    exact (Classical.choose_spec hq).2
  · show Int.natAbs (if h : _ then _ else _) ≤ 50
    split
    · rename_i hq; exact (Classical.choose_spec hq).1
    · decide
theorem rem51 {z : Int} (h : I8 z) : ∃ t : Int, Int.tmod z 51 = t ∧ t.natAbs ≤ 50 ∧ (wrap64 z = z ∧ IntKind.i64.wrap z = z) ∧ (wrap64 t = t ∧ IntKind.i64.wrap t = t) ∧ EX (floatOfInt .f64 t) t := by
  unfold I8 at h
  have h1 : (Int.tmod z 51).natAbs ≤ 50 := by
    have := Int.natAbs_tmod z 51
    rw [this]
    have := Nat.mod_lt z.natAbs (show 0 < (51 : Int).natAbs by decide)
    have e : (51 : Int).natAbs = 51 := rfl
    rw [e] at this ⊢
    omega
  refine ⟨_, rfl, h1, ⟨wrap_id (by unfold I64; omega), wrapi (by omega) (by omega)⟩, ⟨wrap_id (by unfold I64; omega), wrapi (by omega) (by omega)⟩, int_worde (by omega)⟩
/-- One number has been stored. -/
def StoredE (g P : Nat) (v : Nat) (wr W : World) : Prop := ∃ W', Below wr.heap.size wr W' ∧ W = W'.setCell ⟨g, P, none⟩ (.float .f64 v)
theorem chg_sets5 {G : List Nat} {w W : World} (h : Chg G w W) {p : Nat} (hz : w.heap.size ≤ p) (x0 x1 x2 x3 x4 : Value) : Chg G w (((((W.setCell ⟨p, 0, none⟩ x0).setCell ⟨p, 1, none⟩ x1).setCell ⟨p, 2, none⟩ x2).setCell ⟨p, 3, none⟩ x3).setCell ⟨p, 4, none⟩ x4) :=
  ((((h.set_new (p := ⟨p, 0, none⟩) hz x0).set_new (p := ⟨p, 1, none⟩) hz x1).set_new (p := ⟨p, 2, none⟩) hz x2).set_new (p := ⟨p, 3, none⟩) hz x3).set_new (p := ⟨p, 4, none⟩) hz x4
/-- What the closure comes to. -/
def Made1 (R C N kb n : Nat) (w : World) (e : Ending) (w' : World) : Prop := ∃ g M Z k1, e = .returned (.agg #[.slice (some ⟨g, 0, none⟩) N N, .int .i64 0, .int .i64 (R : Int), .int .i64 (C : Int), .int .i64 (R : Int)]) ∧ SmX w' g M R C N Z 50 ∧ w.heap.size ≤ g ∧ Blk w' kb 3 #[.int .i64 ((k1 : Nat) : Int)] ∧ k1 ≤ n ∧ Chg [kb] w w'
set_option maxRecDepth 100000 in
set_option maxHeartbeats 2000000 in
theorem gemake_any (R C N kb lb : Nat) (A : Option Addr) (n cc : Nat) (l : List Int) (k0 : Nat) (w : World) (hk : Blk w kb 3 #[.int .i64 (k0 : Int)]) (hk0 : k0 ≤ n) (hlb : Blk w lb 45 #[.slice A n cc]) (hA : Row w A (i8s l)) (hl : l.length = n) (hn : n < 9223372036854775808) (hI : ∀ z ∈ l, I8 z) (hN : R * C = N) (hR : 1 ≤ R ∧ R ≤ 6) (hC : 1 ≤ C ∧ C ≤ 6) :
    Calls Try.prog 19 #[.int .i64 (R : Int), .int .i64 (C : Int), .pointer (some ⟨kb, 0, none⟩), .pointer (some ⟨lb, 0, none⟩)] w (Made1 R C N kb n w) := by
  have hNb := small_le hN hR.2 hC.2
  have HDn := Lib.hid (fun W => show Calls Try.prog 20 #[.int .i64 (R : Int), .int .i64 (C : Int), .slice none 0 0] W fun e w' => ∃ g, e = .returned (.agg #[.slice (some ⟨g, 0, none⟩) N N, .int .i64 0, .int .i64 (R : Int), .int .i64 (C : Int), .int .i64 (R : Int)]) ∧ Own w' g (List.replicate N 0) ∧ W.heap.size ≤ g ∧ Below W.heap.size W w' from by
    have := dense_blk none 0 [] R C W (by omega) (by omega) (.inl rfl) (by simp) (by simp)
    rw [hN, show max 1 R = R by omega] at this
    refine this.mono ?_
    rintro e w' ⟨g', M, rfl, hd, hB, hg, hb⟩
    have e0 : M = List.replicate N 0 := ext_getD (by rw [hd.1, hN]; simp) fun x hx => by
      have hx3 : x < R * C := by rw [hd.1] at hx; exact hx
      have hx4 : x < C * R := by rw [Nat.mul_comm]; exact hx3
      have e2 : x = 0 + x / R * R + x % R := by rw [Nat.zero_add, Nat.mul_comm]; exact (Nat.div_add_mod x R).symm
      have := dense_ate hd (i := x % R) (k := x / R) (Nat.mod_lt x (by omega)) (Nat.div_lt_of_lt_mul hx3)
      rw [← e2] at this
      rw [this, repl0]
      simp [List.getD]
    subst e0
    exact ⟨g', by simp [mat], own_blk hB, hg, hb⟩)
  have HAt := Lib.hid (fun k (h : k < n) => i8_ate hA hl h)
  have HI8 := Lib.hid (fun k (h : k < n) => show I8 (l.getD k 0) from by
    have h1 : k < l.length := by omega
    have : l.getD k 0 = l[k] := by simp [List.getD, h1]
    rw [this]; exact hI _ (List.getElem_mem h1))
  have HK0 := Lib.hid hk
  have HL0 := Lib.hid hlb
  have Hk0 := Lib.hid hk0
  have HN0 := Lib.hid hN
  have HR1 := Lib.hid hR.1
  have hklb : kb ≠ lb := blk_ne hk hlb (by decide)
  have hkw : kb < w.heap.size := hk.lt
  have hlw : lb < w.heap.size := hlb.lt
  clear hk hk0 hlb hA hl hI hN hR hC
  go_enter Try.func19, Try.ntmps19
  have He0 := Lib.hid (Blk.new w 25 #[.slice none 0 0, .int .i64 0, .int .i64 0, .int .i64 0, .int .i64 0])
  have HB0 := Lib.hid ((Below.refl w.heap.size w).alloc (Nat.le_refl _) (.cells #[.slice none 0 0, .int .i64 0, .int .i64 0, .int .i64 0, .int .i64 0] 25))
  go_wp2_with fail
  refine (HDn.out _).mono ?_
  rintro e w1 ⟨g, rfl, hO, hg, hb⟩
  have He1 := Lib.hid ((He0.out.nxt hb).alloc (.cells #[.slice (some ⟨g, 0, none⟩) N N, .int .i64 0, .int .i64 (R : Int), .int .i64 (C : Int), .int .i64 (R : Int)] 25))
  have HMb1 := Lib.hid (Blk.new w1 25 #[.slice (some ⟨g, 0, none⟩) N N, .int .i64 0, .int .i64 (R : Int), .int .i64 (C : Int), .int .i64 (R : Int)])
  have HO1 := Lib.hid (hO.nxt (below_one (o := (.cells #[.slice (some ⟨g, 0, none⟩) N N, .int .i64 0, .int .i64 (R : Int), .int .i64 (C : Int), .int .i64 (R : Int)] 25))))
  have HB1 := Lib.hid (below_al (below_nx HB0.out hb) (o := (.cells #[.slice (some ⟨g, 0, none⟩) N N, .int .i64 0, .int .i64 (R : Int), .int .i64 (C : Int), .int .i64 (R : Int)] 25)))
  have hsz := hb.size
  have HNe0 := Lib.hid (show kb < w.heap.size ∧ lb < w.heap.size ∧ kb ≠ lb ∧ w.heap.size ≤ g ∧ w.heap.size < w1.heap.size from ⟨hkw, hlw, hklb, by simp at hg; omega, by simp at hsz; omega⟩)
  clear hb hO hg hsz hklb hkw hlw
  go_wp2_with fail
  generalize hw2 : w1.alloc (.cells #[.slice (some ⟨g, 0, none⟩) N N, .int .i64 0, .int .i64 (R : Int), .int .i64 (C : Int), .int .i64 (R : Int)] 25) = w2 at *
  generalize hmb : w1.heap.size = mb at *
  obtain ⟨rb, hrb⟩ : ∃ rb, w.heap.size = rb := ⟨_, rfl⟩
  have HRb0 := Lib.hid hrb
  have HK1 := Lib.hid (HB1.out.block kb (HNe0.out.1) |>.trans HK0.out)
  rw [hrb] at He1
  have HNe := Lib.hid (show kb < rb ∧ lb < rb ∧ kb ≠ lb ∧ rb ≤ g ∧ rb < mb ∧ w.heap.size = rb from by have := HNe0.out; omega)
  have HC1 := Lib.hid (Chg.of_below (G := [kb]) HB1.out)
  rw [hrb]
  clear hw2 hmb hrb HNe0 HB1
  go_loopw [8] (fun a wr => ∃ q : Nat, q ≤ N ∧ a = .int .i64 (q : Int) ∧ Hid (∃ (kk : Nat) (MM : List Nat), kk ≤ n ∧ Blk wr kb 3 #[.int .i64 (kk : Int)] ∧ Own wr g MM ∧ MM.length = N ∧ SmI MM ∧ Blk wr rb 25 #[.slice none 0 0, .int .i64 0, .int .i64 0, .int .i64 0, .int .i64 0] ∧ Blk wr mb 25 #[.slice (some ⟨g, 0, none⟩) N N, .int .i64 0, .int .i64 (R : Int), .int .i64 (C : Int), .int .i64 (R : Int)] ∧ Chg [kb] w wr)) (fun a _ => N - (intOf a).toNat)
  case atStart => exact ⟨0, Nat.zero_le _, rfl, Lib.hid ⟨k0, _, Hk0.out, HK1.out, HO1.out, by simp, smI_zero N, He1.out, HMb1.out, HC1.out⟩⟩
  case round =>
    clear HK1 HO1 He1 HMb1 HC1
    obtain ⟨q, hq, rfl, HH⟩ := hrel
    obtain ⟨k, M, p1, p2, p3, p4, p5, p6, p7, p8⟩ := HH.out
    have hlc : wr.cell? ⟨lb, 0, none⟩ = some (.slice A n cc) := p8.cell (by simp; exact fun e => HNe.out.2.2.1 e.symm) (HL0.out.cell 0)
    have hkc := p2.cell 0
    simp only [List.getElem?_toArray, List.getElem?_cons_zero] at hkc
    obtain ⟨m0, m1, m2, m3, m4⟩ := cells5 p7
    by_cases hlt : q < N
    · by_cases hkn : k < n
      · obtain ⟨b, o, rfl, hc⟩ := HAt.out k hkn
        have hbk : b ≠ kb := fun e => by
          subst e
          rw [HK0.out.cell] at hc
          rcases Nat.eq_zero_or_pos (o + k) with h0 | h0
          · rw [h0] at hc; simp at hc
          · rw [Array.getElem?_eq_none (by simp; omega)] at hc; cases hc
        have HEc0 := p8.cell (by simpa using hbk) hc
        obtain ⟨t0, htm, ht50, ⟨wz1, wz2⟩, ⟨wt1, wt2⟩, hex⟩ := rem51 (HI8.out k hkn)
        obtain ⟨z0, hz0⟩ : ∃ z, l.getD k 0 = z := ⟨_, rfl⟩
        rw [hz0] at HEc0 htm wz1 wz2
        obtain ⟨v0, hv0⟩ : ∃ v, floatOfInt .f64 t0 = v := ⟨_, rfl⟩
        rw [hv0] at hex
        have HNk := Lib.hid (fun W' (hbw : Below wr.heap.size wr W') => show ((W'.setCell ⟨g, q, none⟩ (.float .f64 v0)).cell? ⟨kb, 0, none⟩ = some (.int .i64 (k : Int))) ∧ ((W'.setCell ⟨g, q, none⟩ (.float .f64 v0)).frozen? ⟨kb, 0, none⟩ = false) from by
          have h9 := ((p2.nxt hbw).other (p := ⟨g, q, none⟩) (show kb ≠ g by have := HNe.out; omega) (.float .f64 v0))
          exact ⟨h9.cell 0, h9.frozen 0⟩)
        have HNx := Lib.hid (fun W' (hbw : Below wr.heap.size wr W') => show Hid (∃ (kk : Nat) (MM : List Nat), kk ≤ n ∧ Blk ((W'.setCell ⟨g, q, none⟩ (.float .f64 v0)).setCell ⟨kb, 0, none⟩ (.int .i64 ((k + 1 : Nat) : Int))) kb 3 #[.int .i64 (kk : Int)] ∧ Own ((W'.setCell ⟨g, q, none⟩ (.float .f64 v0)).setCell ⟨kb, 0, none⟩ (.int .i64 ((k + 1 : Nat) : Int))) g MM ∧ MM.length = N ∧ SmI MM ∧ Blk ((W'.setCell ⟨g, q, none⟩ (.float .f64 v0)).setCell ⟨kb, 0, none⟩ (.int .i64 ((k + 1 : Nat) : Int))) rb 25 #[.slice none 0 0, .int .i64 0, .int .i64 0, .int .i64 0, .int .i64 0] ∧ Blk ((W'.setCell ⟨g, q, none⟩ (.float .f64 v0)).setCell ⟨kb, 0, none⟩ (.int .i64 ((k + 1 : Nat) : Int))) mb 25 #[.slice (some ⟨g, 0, none⟩) N N, .int .i64 0, .int .i64 (R : Int), .int .i64 (C : Int), .int .i64 (R : Int)] ∧ Chg [kb] w ((W'.setCell ⟨g, q, none⟩ (.float .f64 v0)).setCell ⟨kb, 0, none⟩ (.int .i64 ((k + 1 : Nat) : Int)))) from Lib.hid (by
          have hO' := (p3.nxt hbw).set_ q v0 (by rw [p4]; exact hlt)
          have hK' := ((p2.nxt hbw).other (p := ⟨g, q, none⟩) (show kb ≠ g by have := HNe.out; omega) (.float .f64 v0))
          have hs := hK'.set_ 0 (.int .i64 ((k + 1 : Nat) : Int))
          refine ⟨k + 1, M.set q v0, hkn, by simpa using hs, hO'.other (p := ⟨kb, 0, none⟩) (show g ≠ kb by have := HNe.out; omega) _, by rw [List.length_set]; exact p4, p5.set_ q v0 ht50 hex, ?_, ?_, ?_⟩
          · exact ((p6.nxt hbw).other (p := ⟨g, q, none⟩) (fun e => own_ne (p3.nxt hbw) (p6.nxt hbw) (by decide) e.symm) _).other (p := ⟨kb, 0, none⟩) (show rb ≠ kb by have := HNe.out; omega) _
          · exact ((p7.nxt hbw).other (p := ⟨g, q, none⟩) (fun e => own_ne (p3.nxt hbw) (p7.nxt hbw) (by decide) e.symm) _).other (p := ⟨kb, 0, none⟩) (show mb ≠ kb by have := HNe.out; omega) _
          · exact ((p8.nxt hbw).set_new (p := ⟨g, q, none⟩) (show w.heap.size ≤ g by have := HNe.out; omega) _).set_in (by simp) _))
        have bq := hlt
        have bqi : (q : Int) < (N : Int) := by omega
        have bk := hkn
        have bki : (k : Int) < (n : Int) := by omega
        have hq1 : q + 1 ≤ 1048576 := by omega
        obtain ⟨wk1, wk2⟩ := wk_next hkn hn
        have HKc := Lib.hid hkc
        have HLc := Lib.hid hlc
        have HEc := Lib.hid HEc0
        have HMb := Lib.hid p7
        have HOg := Lib.hid p3
        have HMl := Lib.hid p4
        obtain ⟨k2, hk2⟩ : ∃ k2, k + 1 = k2 := ⟨_, rfl⟩
        rw [hk2] at HNx wk1 wk2
        clear p1 p2 p3 p4 p5 p6 p7 p8 hc hbk hz0 hk2 HEc0 ht50 hex
        go_wp2_with fail
        clear m0 m1 m2 m3 m4
        refine wp_region_inv [25, 26, 27, 28, 29, 30, 31, 32, 33, 34, 35] (fun d s W => (d 0 = true → s 25 = .pointer (some ⟨mb, 0, none⟩)) ∧ (d 1 = true → s 26 = .slice (some ⟨g, 0, none⟩) N N) ∧ (d 2 = true → s 27 = .int .i64 (q : Int)) ∧ (d 3 = true → s 28 = .slice (some ⟨b, o, none⟩) n cc) ∧ (d 4 = true → s 29 = .int .i64 (k : Int)) ∧ (d 5 = true → s 30 = .pointer (some ⟨b, o + k, none⟩)) ∧ (d 6 = true → s 31 = .int .i8 z0) ∧ (d 7 = true → s 32 = .int .i64 z0) ∧ (d 8 = true → s 33 = .int .i64 t0) ∧ (d 9 = true → s 34 = .float .f64 v0) ∧ (d 10 = true → s 35 = .pointer (some ⟨g, q, none⟩)) ∧ (d 1 = true → d 0 = true) ∧ (d 5 = true → d 3 = true ∧ d 4 = true) ∧ (d 6 = true → d 3 = true ∧ d 4 = true ∧ d 5 = true) ∧ (d 7 = true → d 3 = true ∧ d 4 = true ∧ d 5 = true ∧ d 6 = true) ∧ (d 8 = true → d 3 = true ∧ d 4 = true ∧ d 5 = true ∧ d 6 = true ∧ d 7 = true) ∧ (d 9 = true → d 3 = true ∧ d 4 = true ∧ d 5 = true ∧ d 6 = true ∧ d 7 = true ∧ d 8 = true) ∧ (d 10 = true → d 0 = true ∧ d 1 = true ∧ d 2 = true) ∧ (d 11 = true → d 0 = true ∧ d 1 = true ∧ d 2 = true ∧ d 3 = true ∧ d 4 = true ∧ d 5 = true ∧ d 6 = true ∧ d 7 = true ∧ d 8 = true ∧ d 9 = true ∧ d 10 = true) ∧ ((d 11 = false → Below wr.heap.size wr W) ∧ (d 11 = true → StoredE g q v0 wr W)))
          rfl (by kernel_rfl) ?_ ?_ ?_
        · exact ⟨by simp, by simp, by simp, by simp, by simp, by simp, by simp, by simp, by simp, by simp, by simp, by simp, by simp, by simp, by simp, by simp, by simp, by simp, by simp, ⟨fun _ => (Below.refl _ _).drew, fun h => by simp at h⟩⟩
        · refine ⟨?_, ?_, ?_, ?_, ?_, ?_, ?_, ?_, ?_, ?_, ?_, ?_, trivial⟩
          all_goals
            intro d s W hJ hfr hd hdep
            simp only [List.mem_cons, forall_eq_or_imp, List.not_mem_nil, false_implies, implies_true, and_true, Region.binds] at hdep
            have f2 := hfr 2 (by decide)
            have f3 := hfr 3 (by decide)
            have f7 := hfr 7 (by decide)
            have f8 := hfr 8 (by decide)
            simp at f2 f3 f7 f8 hdep
            obtain ⟨h0, h1, h2, h3, h4, h5, h6, h7, h8, h9, h10, x0, x1, x2, x3, x4, x5, x6, x7, hT⟩ := hJ
          · have hl : d 11 = false := by
              cases h : d 11
              · rfl
              · have := x7 h; simp [hd] at this
            replace hT := hT.1 hl
            unfold OpSteps
            simp [go_sem, evS, f7]
            exact ⟨fun _ => by simp [sput], fun h => by simpa [sput] using h1 (by simpa [did] using h), fun h => by simpa [sput] using h2 (by simpa [did] using h), fun h => by simpa [sput] using h3 (by simpa [did] using h), fun h => by simpa [sput] using h4 (by simpa [did] using h), fun h => by simpa [sput] using h5 (by simpa [did] using h), fun h => by simpa [sput] using h6 (by simpa [did] using h), fun h => by simpa [sput] using h7 (by simpa [did] using h), fun h => by simpa [sput] using h8 (by simpa [did] using h), fun h => by simpa [sput] using h9 (by simpa [did] using h), fun h => by simpa [sput] using h10 (by simpa [did] using h), fun h => by have := x0 (by simpa [did] using h); simp [did, this], fun h => by have := x1 (by simpa [did] using h); simp [did, this], fun h => by have := x2 (by simpa [did] using h); simp [did, this], fun h => by have := x3 (by simpa [did] using h); simp [did, this], fun h => by have := x4 (by simpa [did] using h); simp [did, this], fun h => by have := x5 (by simpa [did] using h); simp [did, this], fun h => by have := x6 (by simpa [did] using h); simp [did, this], fun h => by have := x7 (by simpa [did] using h); simp [did, this], ⟨fun _ => hT, fun h => by simp [did, hl] at h⟩⟩
          · have hl : d 11 = false := by
              cases h : d 11
              · rfl
              · have := x7 h; simp [hd] at this
            replace hT := hT.1 hl
            have g0 := h0 (by simp [hdep])
            unfold OpSteps
            obtain ⟨p0, p1, p2, p3, p4⟩ := cells5 (HMb.out.below hT HMb.out.lt)
            simp [go_sem, evS, g0, p0, p1, p2, p3, p4]
            exact ⟨fun h => by simpa [sput] using h0 (by simpa [did] using h), fun _ => by simp [sput], fun h => by simpa [sput] using h2 (by simpa [did] using h), fun h => by simpa [sput] using h3 (by simpa [did] using h), fun h => by simpa [sput] using h4 (by simpa [did] using h), fun h => by simpa [sput] using h5 (by simpa [did] using h), fun h => by simpa [sput] using h6 (by simpa [did] using h), fun h => by simpa [sput] using h7 (by simpa [did] using h), fun h => by simpa [sput] using h8 (by simpa [did] using h), fun h => by simpa [sput] using h9 (by simpa [did] using h), fun h => by simpa [sput] using h10 (by simpa [did] using h), fun _ => by simp [did, hdep], fun h => by have := x1 (by simpa [did] using h); simp [did, this], fun h => by have := x2 (by simpa [did] using h); simp [did, this], fun h => by have := x3 (by simpa [did] using h); simp [did, this], fun h => by have := x4 (by simpa [did] using h); simp [did, this], fun h => by have := x5 (by simpa [did] using h); simp [did, this], fun h => by have := x6 (by simpa [did] using h); simp [did, this], fun h => by have := x7 (by simpa [did] using h); simp [did, this], ⟨fun _ => hT, fun h => by simp [did, hl] at h⟩⟩
          · have hl : d 11 = false := by
              cases h : d 11
              · rfl
              · have := x7 h; simp [hd] at this
            replace hT := hT.1 hl
            unfold OpSteps
            simp [go_sem, evS, f8]
            exact ⟨fun h => by simpa [sput] using h0 (by simpa [did] using h), fun h => by simpa [sput] using h1 (by simpa [did] using h), fun _ => by simp [sput], fun h => by simpa [sput] using h3 (by simpa [did] using h), fun h => by simpa [sput] using h4 (by simpa [did] using h), fun h => by simpa [sput] using h5 (by simpa [did] using h), fun h => by simpa [sput] using h6 (by simpa [did] using h), fun h => by simpa [sput] using h7 (by simpa [did] using h), fun h => by simpa [sput] using h8 (by simpa [did] using h), fun h => by simpa [sput] using h9 (by simpa [did] using h), fun h => by simpa [sput] using h10 (by simpa [did] using h), fun h => by have := x0 (by simpa [did] using h); simp [did, this], fun h => by have := x1 (by simpa [did] using h); simp [did, this], fun h => by have := x2 (by simpa [did] using h); simp [did, this], fun h => by have := x3 (by simpa [did] using h); simp [did, this], fun h => by have := x4 (by simpa [did] using h); simp [did, this], fun h => by have := x5 (by simpa [did] using h); simp [did, this], fun h => by have := x6 (by simpa [did] using h); simp [did, this], fun h => by have := x7 (by simpa [did] using h); simp [did, this], ⟨fun _ => hT, fun h => by simp [did, hl] at h⟩⟩
          · have hl : d 11 = false := by
              cases h : d 11
              · rfl
              · have := x7 h; simp [hd] at this
            replace hT := hT.1 hl
            unfold OpSteps
            have pc := cell_below HLc.out hT
            simp [go_sem, evS, f3, pc]
            exact ⟨fun h => by simpa [sput] using h0 (by simpa [did] using h), fun h => by simpa [sput] using h1 (by simpa [did] using h), fun h => by simpa [sput] using h2 (by simpa [did] using h), fun _ => by simp [sput], fun h => by simpa [sput] using h4 (by simpa [did] using h), fun h => by simpa [sput] using h5 (by simpa [did] using h), fun h => by simpa [sput] using h6 (by simpa [did] using h), fun h => by simpa [sput] using h7 (by simpa [did] using h), fun h => by simpa [sput] using h8 (by simpa [did] using h), fun h => by simpa [sput] using h9 (by simpa [did] using h), fun h => by simpa [sput] using h10 (by simpa [did] using h), fun h => by have := x0 (by simpa [did] using h); simp [did, this], fun h => by have := x1 (by simpa [did] using h); simp [did, this], fun h => by have := x2 (by simpa [did] using h); simp [did, this], fun h => by have := x3 (by simpa [did] using h); simp [did, this], fun h => by have := x4 (by simpa [did] using h); simp [did, this], fun h => by have := x5 (by simpa [did] using h); simp [did, this], fun h => by have := x6 (by simpa [did] using h); simp [did, this], fun h => by have := x7 (by simpa [did] using h); simp [did, this], ⟨fun _ => hT, fun h => by simp [did, hl] at h⟩⟩
          · have hl : d 11 = false := by
              cases h : d 11
              · rfl
              · have := x7 h; simp [hd] at this
            replace hT := hT.1 hl
            unfold OpSteps
            have pc := cell_below HKc.out hT
            simp [go_sem, evS, f2, pc]
            exact ⟨fun h => by simpa [sput] using h0 (by simpa [did] using h), fun h => by simpa [sput] using h1 (by simpa [did] using h), fun h => by simpa [sput] using h2 (by simpa [did] using h), fun h => by simpa [sput] using h3 (by simpa [did] using h), fun _ => by simp [sput], fun h => by simpa [sput] using h5 (by simpa [did] using h), fun h => by simpa [sput] using h6 (by simpa [did] using h), fun h => by simpa [sput] using h7 (by simpa [did] using h), fun h => by simpa [sput] using h8 (by simpa [did] using h), fun h => by simpa [sput] using h9 (by simpa [did] using h), fun h => by simpa [sput] using h10 (by simpa [did] using h), fun h => by have := x0 (by simpa [did] using h); simp [did, this], fun h => by have := x1 (by simpa [did] using h); simp [did, this], fun h => by have := x2 (by simpa [did] using h); simp [did, this], fun h => by have := x3 (by simpa [did] using h); simp [did, this], fun h => by have := x4 (by simpa [did] using h); simp [did, this], fun h => by have := x5 (by simpa [did] using h); simp [did, this], fun h => by have := x6 (by simpa [did] using h); simp [did, this], fun h => by have := x7 (by simpa [did] using h); simp [did, this], ⟨fun _ => hT, fun h => by simp [did, hl] at h⟩⟩
          · have hl : d 11 = false := by
              cases h : d 11
              · rfl
              · have := x7 h; simp [hd] at this
            replace hT := hT.1 hl
            have g3 := h3 (by simp [hdep])
            have g4 := h4 (by simp [hdep])
            unfold OpSteps
            simp [go_sem, evS, g3, g4, bk, bki]
            exact ⟨fun h => by simpa [sput] using h0 (by simpa [did] using h), fun h => by simpa [sput] using h1 (by simpa [did] using h), fun h => by simpa [sput] using h2 (by simpa [did] using h), fun h => by simpa [sput] using h3 (by simpa [did] using h), fun h => by simpa [sput] using h4 (by simpa [did] using h), fun _ => by simp [sput], fun h => by simpa [sput] using h6 (by simpa [did] using h), fun h => by simpa [sput] using h7 (by simpa [did] using h), fun h => by simpa [sput] using h8 (by simpa [did] using h), fun h => by simpa [sput] using h9 (by simpa [did] using h), fun h => by simpa [sput] using h10 (by simpa [did] using h), fun h => by have := x0 (by simpa [did] using h); simp [did, this], fun _ => by simp [did, hdep], fun h => by have := x2 (by simpa [did] using h); simp [did, this], fun h => by have := x3 (by simpa [did] using h); simp [did, this], fun h => by have := x4 (by simpa [did] using h); simp [did, this], fun h => by have := x5 (by simpa [did] using h); simp [did, this], fun h => by have := x6 (by simpa [did] using h); simp [did, this], fun h => by have := x7 (by simpa [did] using h); simp [did, this], ⟨fun _ => hT, fun h => by simp [did, hl] at h⟩⟩
          · have hl : d 11 = false := by
              cases h : d 11
              · rfl
              · have := x7 h; simp [hd] at this
            replace hT := hT.1 hl
            have g5 := h5 (by simp [hdep])
            unfold OpSteps
            have pc := cell_below HEc.out hT
            simp [go_sem, evS, g5, pc]
            exact ⟨fun h => by simpa [sput] using h0 (by simpa [did] using h), fun h => by simpa [sput] using h1 (by simpa [did] using h), fun h => by simpa [sput] using h2 (by simpa [did] using h), fun h => by simpa [sput] using h3 (by simpa [did] using h), fun h => by simpa [sput] using h4 (by simpa [did] using h), fun h => by simpa [sput] using h5 (by simpa [did] using h), fun _ => by simp [sput], fun h => by simpa [sput] using h7 (by simpa [did] using h), fun h => by simpa [sput] using h8 (by simpa [did] using h), fun h => by simpa [sput] using h9 (by simpa [did] using h), fun h => by simpa [sput] using h10 (by simpa [did] using h), fun h => by have := x0 (by simpa [did] using h); simp [did, this], fun h => by have := x1 (by simpa [did] using h); simp [did, this], fun _ => by have y5 := x1 (by simp [hdep]); simp [did, hdep, y5], fun h => by have := x3 (by simpa [did] using h); simp [did, this], fun h => by have := x4 (by simpa [did] using h); simp [did, this], fun h => by have := x5 (by simpa [did] using h); simp [did, this], fun h => by have := x6 (by simpa [did] using h); simp [did, this], fun h => by have := x7 (by simpa [did] using h); simp [did, this], ⟨fun _ => hT, fun h => by simp [did, hl] at h⟩⟩
          · have hl : d 11 = false := by
              cases h : d 11
              · rfl
              · have := x7 h; simp [hd] at this
            replace hT := hT.1 hl
            have g6 := h6 (by simp [hdep])
            unfold OpSteps
            simp [go_sem, evS, g6, wz1, wz2]
            exact ⟨fun h => by simpa [sput] using h0 (by simpa [did] using h), fun h => by simpa [sput] using h1 (by simpa [did] using h), fun h => by simpa [sput] using h2 (by simpa [did] using h), fun h => by simpa [sput] using h3 (by simpa [did] using h), fun h => by simpa [sput] using h4 (by simpa [did] using h), fun h => by simpa [sput] using h5 (by simpa [did] using h), fun h => by simpa [sput] using h6 (by simpa [did] using h), fun _ => by simp [sput], fun h => by simpa [sput] using h8 (by simpa [did] using h), fun h => by simpa [sput] using h9 (by simpa [did] using h), fun h => by simpa [sput] using h10 (by simpa [did] using h), fun h => by have := x0 (by simpa [did] using h); simp [did, this], fun h => by have := x1 (by simpa [did] using h); simp [did, this], fun h => by have := x2 (by simpa [did] using h); simp [did, this], fun _ => by have y6 := x2 (by simp [hdep]); simp [did, hdep, y6], fun h => by have := x4 (by simpa [did] using h); simp [did, this], fun h => by have := x5 (by simpa [did] using h); simp [did, this], fun h => by have := x6 (by simpa [did] using h); simp [did, this], fun h => by have := x7 (by simpa [did] using h); simp [did, this], ⟨fun _ => hT, fun h => by simp [did, hl] at h⟩⟩
          · have hl : d 11 = false := by
              cases h : d 11
              · rfl
              · have := x7 h; simp [hd] at this
            replace hT := hT.1 hl
            have g7 := h7 (by simp [hdep])
            unfold OpSteps
            simp [go_sem, evS, g7, htm, wt1, wt2]
            exact ⟨fun h => by simpa [sput] using h0 (by simpa [did] using h), fun h => by simpa [sput] using h1 (by simpa [did] using h), fun h => by simpa [sput] using h2 (by simpa [did] using h), fun h => by simpa [sput] using h3 (by simpa [did] using h), fun h => by simpa [sput] using h4 (by simpa [did] using h), fun h => by simpa [sput] using h5 (by simpa [did] using h), fun h => by simpa [sput] using h6 (by simpa [did] using h), fun h => by simpa [sput] using h7 (by simpa [did] using h), fun _ => by simp [sput], fun h => by simpa [sput] using h9 (by simpa [did] using h), fun h => by simpa [sput] using h10 (by simpa [did] using h), fun h => by have := x0 (by simpa [did] using h); simp [did, this], fun h => by have := x1 (by simpa [did] using h); simp [did, this], fun h => by have := x2 (by simpa [did] using h); simp [did, this], fun h => by have := x3 (by simpa [did] using h); simp [did, this], fun _ => by have y7 := x3 (by simp [hdep]); simp [did, hdep, y7], fun h => by have := x5 (by simpa [did] using h); simp [did, this], fun h => by have := x6 (by simpa [did] using h); simp [did, this], fun h => by have := x7 (by simpa [did] using h); simp [did, this], ⟨fun _ => hT, fun h => by simp [did, hl] at h⟩⟩
          · have hl : d 11 = false := by
              cases h : d 11
              · rfl
              · have := x7 h; simp [hd] at this
            replace hT := hT.1 hl
            have g8 := h8 (by simp [hdep])
            unfold OpSteps
            simp [go_sem, evS, g8, hv0]
            exact ⟨fun h => by simpa [sput] using h0 (by simpa [did] using h), fun h => by simpa [sput] using h1 (by simpa [did] using h), fun h => by simpa [sput] using h2 (by simpa [did] using h), fun h => by simpa [sput] using h3 (by simpa [did] using h), fun h => by simpa [sput] using h4 (by simpa [did] using h), fun h => by simpa [sput] using h5 (by simpa [did] using h), fun h => by simpa [sput] using h6 (by simpa [did] using h), fun h => by simpa [sput] using h7 (by simpa [did] using h), fun h => by simpa [sput] using h8 (by simpa [did] using h), fun _ => by simp [sput], fun h => by simpa [sput] using h10 (by simpa [did] using h), fun h => by have := x0 (by simpa [did] using h); simp [did, this], fun h => by have := x1 (by simpa [did] using h); simp [did, this], fun h => by have := x2 (by simpa [did] using h); simp [did, this], fun h => by have := x3 (by simpa [did] using h); simp [did, this], fun h => by have := x4 (by simpa [did] using h); simp [did, this], fun _ => by have y8 := x4 (by simp [hdep]); simp [did, hdep, y8], fun h => by have := x6 (by simpa [did] using h); simp [did, this], fun h => by have := x7 (by simpa [did] using h); simp [did, this], ⟨fun _ => hT, fun h => by simp [did, hl] at h⟩⟩
          · have hl : d 11 = false := by
              cases h : d 11
              · rfl
              · have := x7 h; simp [hd] at this
            replace hT := hT.1 hl
            have g1 := h1 (by simp [hdep])
            have g2 := h2 (by simp [hdep])
            unfold OpSteps
            simp [go_sem, evS, g1, g2, bq, bqi]
            exact ⟨fun h => by simpa [sput] using h0 (by simpa [did] using h), fun h => by simpa [sput] using h1 (by simpa [did] using h), fun h => by simpa [sput] using h2 (by simpa [did] using h), fun h => by simpa [sput] using h3 (by simpa [did] using h), fun h => by simpa [sput] using h4 (by simpa [did] using h), fun h => by simpa [sput] using h5 (by simpa [did] using h), fun h => by simpa [sput] using h6 (by simpa [did] using h), fun h => by simpa [sput] using h7 (by simpa [did] using h), fun h => by simpa [sput] using h8 (by simpa [did] using h), fun h => by simpa [sput] using h9 (by simpa [did] using h), fun _ => by simp [sput], fun h => by have := x0 (by simpa [did] using h); simp [did, this], fun h => by have := x1 (by simpa [did] using h); simp [did, this], fun h => by have := x2 (by simpa [did] using h); simp [did, this], fun h => by have := x3 (by simpa [did] using h); simp [did, this], fun h => by have := x4 (by simpa [did] using h); simp [did, this], fun h => by have := x5 (by simpa [did] using h); simp [did, this], fun _ => by have y1 := x0 (by simp [hdep]); simp [did, hdep, y1], fun h => by have := x7 (by simpa [did] using h); simp [did, this], ⟨fun _ => hT, fun h => by simp [did, hl] at h⟩⟩
          · have g10 := h10 (by simp [hdep])
            have g9 := h9 (by simp [hdep])
            unfold OpSteps
            have hT0 := hT.1 hd
            have hO9 := HOg.out.nxt hT0
            have hfz := hO9.frozen q
            have hcl := hO9.get q (by rw [HMl.out]; exact bq)
            simp [go_sem, evS, g10, g9, hfz, hcl]
            exact ⟨fun h => by simpa [sput] using h0 (by simpa [did] using h), fun h => by simpa [sput] using h1 (by simpa [did] using h), fun h => by simpa [sput] using h2 (by simpa [did] using h), fun h => by simpa [sput] using h3 (by simpa [did] using h), fun h => by simpa [sput] using h4 (by simpa [did] using h), fun h => by simpa [sput] using h5 (by simpa [did] using h), fun h => by simpa [sput] using h6 (by simpa [did] using h), fun h => by simpa [sput] using h7 (by simpa [did] using h), fun h => by simpa [sput] using h8 (by simpa [did] using h), fun h => by simpa [sput] using h9 (by simpa [did] using h), fun h => by simpa [sput] using h10 (by simpa [did] using h), fun h => by have := x0 (by simpa [did] using h); simp [did, this], fun h => by have := x1 (by simpa [did] using h); simp [did, this], fun h => by have := x2 (by simpa [did] using h); simp [did, this], fun h => by have := x3 (by simpa [did] using h); simp [did, this], fun h => by have := x4 (by simpa [did] using h); simp [did, this], fun h => by have := x5 (by simpa [did] using h); simp [did, this], fun h => by have := x6 (by simpa [did] using h); simp [did, this], fun _ => by have y9 := x5 (by simp [hdep]); have y10 := x6 (by simp [hdep]); simp [did, hdep, y9, y10], ⟨fun h => by simp [did] at h, fun _ => ⟨W, hT0, rfl⟩⟩⟩
        intro d s W hJ hd
        obtain ⟨h0, h1, h2, h3, h4, h5, h6, h7, h8, h9, h10, x0, x1, x2, x3, x4, x5, x6, x7, hT⟩ := hJ
        obtain ⟨W', hbw, rfl⟩ := hT.2 (hd 11 (by decide))
        have HBw := Lib.hid hbw
        clear h0 h1 h2 h3 h4 h5 h6 h7 h8 h9 h10 x0 x1 x2 x3 x4 x5 x6 x7 hT hd hbw
        simp [setAll]
        generalize s 25 = s25
        generalize s 26 = s26
        generalize s 27 = s27
        generalize s 28 = s28
        generalize s 29 = s29
        generalize s 30 = s30
        generalize s 31 = s31
        generalize s 32 = s32
        generalize s 33 = s33
        generalize s 34 = s34
        generalize s 35 = s35
        have HN := Lib.hid (HNx.out W' HBw.out)
        obtain ⟨hk0, hk1⟩ := HNk.out W' HBw.out
        go_wp2_with fail
        go_roundw
        case rel => exact ⟨q + 1, by omega, by go_num, HN⟩
        case measure => simp [intOf] <;> omega
      · obtain rfl : k = n := by omega
        have bqi : (q : Int) < (N : Int) := by omega
        have hqc : ¬ (k : Int) < (k : Int) := by omega
        obtain ⟨Z0, Zs⟩ := (p5.zs p4 HN0.out HR1.out)
        obtain ⟨Z, hZ1, hZ2⟩ := Zs
        have HFa := Lib.hid (show SmX wr g M R C N Z 50 from ⟨p3, p4, Z0, HN0.out, hZ1, hZ2⟩)
        have HKb := Lib.hid p2
        have HCh := Lib.hid p8
        have Hkn := Lib.hid p1
        have HRb := Lib.hid p6
        have HMb := Lib.hid p7
        obtain ⟨m0, m1, m2, m3, m4⟩ := cells5 p7
        obtain ⟨e0, e1, e2, e3, e4⟩ := cells5 p6
        obtain ⟨f0, f1, f2, f3, f4⟩ := frozen5 p6
        clear p1 p2 p3 p4 p5 p6 p7 p8 Z0 hZ1 hZ2
        go_wp2_with fail
        have hfar : ∀ k9, k9 ≠ rb → _ := fun k9 (hk : k9 ≠ rb) => heap_sets5 (w := wr) hk (.slice (some ⟨g, 0, none⟩) N N) (.int .i64 0) (.int .i64 (R : Int)) (.int .i64 (C : Int)) (.int .i64 (R : Int))
        have HSe := HRb.out.store5 (.slice (some ⟨g, 0, none⟩) N N) (.int .i64 0) (.int .i64 (R : Int)) (.int .i64 (C : Int)) (.int .i64 (R : Int))
        have HKe : Own _ g M := own_offe HFa.out.own (own_ne HFa.out.own HRb.out (by decide)) hfar
        have HKk : Blk _ kb 3 _ := (hfar kb (by have := HNe.out; omega)).trans HKb.out
        have HCe : Chg [kb] w _ := chg_sets5 HCh.out (show w.heap.size ≤ rb by have := HNe.out; omega) (.slice (some ⟨g, 0, none⟩) N N) (.int .i64 0) (.int .i64 (R : Int)) (.int .i64 (C : Int)) (.int .i64 (R : Int))
        obtain ⟨j0, j1, j2, j3, j4⟩ := cells5 HSe
        exact bodyPost_ret (v := .agg #[.slice (some ⟨g, 0, none⟩) N N, .int .i64 0, .int .i64 (R : Int), .int .i64 (C : Int), .int .i64 (R : Int)]) (by simp [results, Try.results19, go_sem, j0, j1, j2, j3, j4]) rfl ⟨g, M, Z, k, rfl, HFa.out.own_ HKe, by have := HNe.out; omega, HKk, Hkn.out, HCe⟩
    · obtain rfl : q = N := by omega
      have hqc : ¬ (q : Int) < (q : Int) := by omega
      obtain ⟨Z0, Zs⟩ := (p5.zs p4 HN0.out HR1.out)
      obtain ⟨Z, hZ1, hZ2⟩ := Zs
      have HFa := Lib.hid (show SmX wr g M R C q Z 50 from ⟨p3, p4, Z0, HN0.out, hZ1, hZ2⟩)
      have HKb := Lib.hid p2
      have HCh := Lib.hid p8
      have Hkn := Lib.hid p1
      have HRb := Lib.hid p6
      have HMb := Lib.hid p7
      obtain ⟨m0, m1, m2, m3, m4⟩ := cells5 p7
      obtain ⟨e0, e1, e2, e3, e4⟩ := cells5 p6
      obtain ⟨f0, f1, f2, f3, f4⟩ := frozen5 p6
      clear p1 p2 p3 p4 p5 p6 p7 p8 Z0 hZ1 hZ2
      go_wp2_with fail
      have hfar : ∀ k9, k9 ≠ rb → _ := fun k9 (hk : k9 ≠ rb) => heap_sets5 (w := wr) hk (.slice (some ⟨g, 0, none⟩) q q) (.int .i64 0) (.int .i64 (R : Int)) (.int .i64 (C : Int)) (.int .i64 (R : Int))
      have HSe := HRb.out.store5 (.slice (some ⟨g, 0, none⟩) q q) (.int .i64 0) (.int .i64 (R : Int)) (.int .i64 (C : Int)) (.int .i64 (R : Int))
      have HKe : Own _ g M := own_offe HFa.out.own (own_ne HFa.out.own HRb.out (by decide)) hfar
      have HKk : Blk _ kb 3 _ := (hfar kb (by have := HNe.out; omega)).trans HKb.out
      have HCe : Chg [kb] w _ := chg_sets5 HCh.out (show w.heap.size ≤ rb by have := HNe.out; omega) (.slice (some ⟨g, 0, none⟩) q q) (.int .i64 0) (.int .i64 (R : Int)) (.int .i64 (C : Int)) (.int .i64 (R : Int))
      obtain ⟨j0, j1, j2, j3, j4⟩ := cells5 HSe
      exact bodyPost_ret (v := .agg #[.slice (some ⟨g, 0, none⟩) q q, .int .i64 0, .int .i64 (R : Int), .int .i64 (C : Int), .int .i64 (R : Int)]) (by simp [results, Try.results19, go_sem, j0, j1, j2, j3, j4]) rfl ⟨g, M, Z, k, rfl, HFa.out.own_ HKe, by have := HNe.out; omega, HKk, Hkn.out, HCe⟩
end Go.Proofs.Ytbbgldelebgnfaa
