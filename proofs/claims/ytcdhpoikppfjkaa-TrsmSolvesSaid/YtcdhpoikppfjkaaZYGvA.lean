/-
Gemv: a number's place; each number of a vector goes through what is handed in. Conditions: the vector is right, its list the call's own.
-/
import Derived.Test.YtcdhpoikppfjkaaWaaj
import Derived.Test.YtcdhpoikppfjkaaWaah
import Derived.Shelf.Abstract
set_option linter.unusedVariables false
set_option linter.unusedSimpArgs false
set_option linter.unnecessarySimpa false
namespace Go.Proofs.Ytcdhpoikppfjkaa
open Go.RowKit
attribute [local go_sem ↓] Go.wp_at_zero Go.wp_at_succ

theorem gvplace_any (A : Option Addr) (n c : Nat) (o K i k : Nat) (w : World) (hP : o + k * i < 1048576) :
    Calls Try.prog 76 #[vec A n c o K i, .int .i64 k] w fun e w' => e = .returned (.int .i64 ((o + k * i : Nat) : Int)) ∧ Below w.heap.size w w' := by
  have HB := Lib.hid ((Below.refl w.heap.size w).alloc (Nat.le_refl _) (.cells #[.slice A n c, .int .i64 o, .int .i64 K, .int .i64 i] 66))
  obtain ⟨a, ha⟩ : ∃ a, k * i = a := ⟨_, rfl⟩
  obtain ⟨P, hPd⟩ : ∃ P, o + k * i = P := ⟨_, rfl⟩
  have e1 : ((k : Int) * (i : Int)) = (a : Int) := by rw [← ha]; simp
  have e2 : (o : Int) + (a : Int) = (P : Int) := by rw [← hPd, ha]; simp
  have HW := Lib.hid (wrap3 (o := o) (a := a) (P := P) (by rw [← hPd]; omega) (by rw [← ha, hPd]))
  rw [hPd] at hP ⊢
  clear ha hPd hP
  obtain ⟨u1, u2, u3, u4⟩ := HW.out
  unfold vec
  go_enter Try.func76, Try.ntmps76
  go_wp2_with fail
  go_ret
  exact ⟨rfl, HB.out⟩

set_option maxRecDepth 100000 in
set_option maxHeartbeats 1000000 in
theorem gveach_any (F : FuncId) (caps : Array Value) (I : World → Prop) (R : Nat → Nat → Prop) (g n c : Nat) (l : List Nat) (o K i : Nat) (w : World)
    (hF : ∀ args W, (callFunc F args).run Try.prog W = .ok (.enter F args) W) (hO : Own w g l) (hl : l.length = n) (hn : n < 1048576) (hi1 : 1 ≤ i) (hr : K = 0 ∨ o + (K - 1) * i < n) (hI : I w)
    (hIb : ∀ W W', I W → Below W.heap.size W W' → I W') (hIs : ∀ W q v, q < K → R q v → I W → I (W.setCell ⟨g, o + q * i, none⟩ (.float .f64 v)))
    (hC : ∀ W q, q < K → I W → Calls Try.prog F (#[.int .i64 (q : Int), .float .f64 (l.getD (o + q * i) 0)] ++ caps) W fun e w' => ∃ r, e = .returned (.float .f64 r) ∧ R q r ∧ Below W.heap.size W w') :
    Calls Try.prog 74 #[vec (some ⟨g, 0, none⟩) n c o K i, .func (.func F) #[] caps] w (Eached I R g l o i K w) := by
  have HRn := Lib.hid (fun a (h : a < K) => show o + a * i < n from by
    rcases hr with h0 | h0
    · omega
    · exact place_lt h0 h)
  have hK : K ≤ n := by
    rcases hr with h0 | h0
    · omega
    · have : K - 1 ≤ (K - 1) * i := Nat.le_mul_of_pos_right _ hi1
      omega
  have HF := Lib.hid hF
  have HO := Lib.hid hO
  have Hl := Lib.hid hl
  have HI0 := Lib.hid hI
  have HIb := Lib.hid hIb
  have HIs := Lib.hid hIs
  have HCa := Lib.hid hC
  have Hi1 := Lib.hid hi1
  have HPl := Lib.hid (fun a (h : a < K) W => gvplace_any (some ⟨g, 0, none⟩) n c o K i a W (by have := HRn.out a h; omega))
  clear hF hO hl hI hIb hIs hC hr hi1
  unfold vec at *
  go_enter Try.func74, Try.ntmps74
  have HZ := Lib.hid (Blk.new w 66 #[.slice (some ⟨g, 0, none⟩) n c, .int .i64 o, .int .i64 K, .int .i64 i])
  have hbl0 : Below w.heap.size w _ := (Below.refl w.heap.size w).alloc (Nat.le_refl _) (.cells #[.slice (some ⟨g, 0, none⟩) n c, .int .i64 o, .int .i64 K, .int .i64 i] 66)
  have HO1 := Lib.hid (HO.out.nxt hbl0)
  have HI1 := Lib.hid (HIb.out _ _ HI0.out hbl0)
  have HC1 := Lib.hid (Chg.of_below (G := [g]) hbl0)
  have Hgz := Lib.hid (show g < w.heap.size from HO.out.lt)
  clear hbl0
  go_wp2_with fail
  generalize hz : w.heap.size = z at *
  have Hz := Lib.hid hz
  clear hz
  go_loopw [8] (fun a wr => ∃ (q : Nat) (m : List Nat), q ≤ K ∧ a = .int .i64 q ∧ Hid (m.length = q ∧ (∀ j, j < q → R j (m.getD j 0)) ∧ Own wr g (wrt l o i m q) ∧ I wr ∧ Chg [g] w wr ∧ Blk wr z 66 #[.slice (some ⟨g, 0, none⟩) n c, .int .i64 o, .int .i64 K, .int .i64 i])) (fun a _ => K - (intOf a).toNat)
  case atStart => exact ⟨0, [], Nat.zero_le _, rfl, Lib.hid ⟨rfl, fun j h => by omega, HO1.out, HI1.out, HC1.out, HZ.out⟩⟩
  case round =>
    obtain ⟨q, m, hq, rfl, HH⟩ := hrel
    have HZ1 := Lib.hid HH.out.2.2.2.2.2
    obtain ⟨c0, c1, c2, c3⟩ := cells4w HZ1.out
    by_cases hlt : q < K
    · have hP := HRn.out q hlt
      have HC0 := Lib.hid (fun W (h : I W) => HCa.out W q hlt h)
      have hyv : (wrt l o i m q).getD (o + q * i) 0 = l.getD (o + q * i) 0 := wrt_else l o i m q (fun j hj e => by have := place_inj Hi1.out e; omega)
      have hPl : o + q * i < (wrt l o i m q).length := by rw [wrt_length, Hl.out]; exact hP
      have hce := HH.out.2.2.1.get _ hPl
      have hfz := HH.out.2.2.1.frozen (o + q * i)
      rw [← getD_of_lt hPl, hyv] at hce
      have HDone0 := Lib.hid (show ∀ r, R q r → ∀ W', Below wr.heap.size wr W' → Hid ((m ++ [r]).length = q + 1 ∧ (∀ j, j < q + 1 → R j ((m ++ [r]).getD j 0)) ∧ Own (W'.setCell ⟨g, o + q * i, none⟩ (.float .f64 r)) g (wrt l o i (m ++ [r]) (q + 1)) ∧ I (W'.setCell ⟨g, o + q * i, none⟩ (.float .f64 r)) ∧ Chg [g] w (W'.setCell ⟨g, o + q * i, none⟩ (.float .f64 r)) ∧ Blk (W'.setCell ⟨g, o + q * i, none⟩ (.float .f64 r)) z 66 #[.slice (some ⟨g, 0, none⟩) n c, .int .i64 o, .int .i64 K, .int .i64 i]) from fun r hr W' hb => Lib.hid (by
        obtain ⟨e1, e2, e3, e4, e5, e6⟩ := HH.out
        refine ⟨by simp [e1], fun j hj => ?_, ?_, HIs.out _ _ _ hlt hr (HIb.out _ _ e4 hb), (e5.nxt hb).set_in (by simp) _, (e6.nxt hb).other (by show z ≠ g; have := Hgz.out; omega) _⟩
        · by_cases h : j < q
          · have : (m ++ [r]).getD j 0 = m.getD j 0 := by simp [List.getD, List.getElem?_append_left (show j < m.length by omega)]
            rw [this]; exact e2 j h
          · obtain rfl : j = q := by omega
            have : (m ++ [r]).getD j 0 = r := by simp [List.getD, ← e1]
            rw [this]; exact hr
        · rw [wrt_last l o i m r q e1]
          exact (e3.nxt hb).set_ _ _ hPl))
      obtain ⟨y, hy⟩ : ∃ y, l.getD (o + q * i) 0 = y := ⟨_, rfl⟩
      rw [hy] at HC0 hce
      have HPq := Lib.hid (HPl.out q hlt)
      obtain ⟨P, hPd⟩ : ∃ P, o + q * i = P := ⟨_, rfl⟩
      rw [hPd] at HPq hP hce hfz HDone0
      have HI := Lib.hid HH.out.2.2.2.1
      have hqK : (q : Int) < (K : Int) := by omega
      have hq1 : q + 1 ≤ 1048576 := by omega
      have b2 := hP
      have HCe0 := Lib.hid hce
      have HFz0 := Lib.hid hfz
      clear hyv hPl hy hPd hce hfz hP
      go_wp2_with fail
      refine (HPq.out _).mono ?_
      rintro e wp ⟨rfl, hbp⟩
      have HDone := Lib.hid (fun r hr W' (hb : Below wp.heap.size wp W') => HDone0.out r hr W' (below_nx hbp hb))
      have HCe := Lib.hid (cell_below HCe0.out hbp)
      have hlt0 : g < wp.heap.size := block_lt HCe.out
      have HFz := Lib.hid (frz_below HFz0.out (block_lt HCe0.out) hbp)
      have HC := HC0
      have HIp := Lib.hid (HIb.out _ _ HI.out hbp)
      have HZ2 := Lib.hid (HZ1.out.nxt hbp)
      have HI := HIp
      clear hbp c0 c1 c2 c3 HIp
      obtain ⟨c0, c1, c2, c3⟩ := cells4w HZ2.out
      generalize wp = wr at *
      go_wp2_with fail
      refine wp_region_inv [14, 15, 16, 17, 18, 19, 20, 21, 22, 23, 24, 25] (fun d s W => (d 0 = true → s 14 = .pointer (some ⟨z, 0, none⟩)) ∧ (d 1 = true → s 15 = .slice (some ⟨g, 0, none⟩) n c) ∧ (d 2 = true → s 16 = .int .i64 (P : Int)) ∧ (d 3 = true → s 17 = .func (.func F) #[] caps) ∧ (d 4 = true → s 18 = .int .i64 (q : Int)) ∧ (d 5 = true → s 19 = .pointer (some ⟨z, 0, none⟩)) ∧ (d 6 = true → s 20 = .slice (some ⟨g, 0, none⟩) n c) ∧ (d 7 = true → s 21 = .int .i64 (P : Int)) ∧ (d 8 = true → s 22 = .pointer (some ⟨g, P, none⟩)) ∧ (d 9 = true → s 23 = .float .f64 y) ∧ (d 10 = true → ∃ r, s 24 = .float .f64 r ∧ R q r) ∧ (d 11 = true → s 25 = .pointer (some ⟨g, P, none⟩)) ∧ (d 1 = true → d 0 = true) ∧ (d 6 = true → d 5 = true) ∧ (d 8 = true → d 5 = true ∧ d 6 = true ∧ d 7 = true) ∧ (d 9 = true → d 5 = true ∧ d 6 = true ∧ d 7 = true ∧ d 8 = true) ∧ (d 10 = true → d 3 = true ∧ d 4 = true ∧ d 5 = true ∧ d 6 = true ∧ d 7 = true ∧ d 8 = true ∧ d 9 = true) ∧ (d 11 = true → d 0 = true ∧ d 1 = true ∧ d 2 = true) ∧ (d 12 = true → d 0 = true ∧ d 1 = true ∧ d 2 = true ∧ d 3 = true ∧ d 4 = true ∧ d 5 = true ∧ d 6 = true ∧ d 7 = true ∧ d 8 = true ∧ d 9 = true ∧ d 10 = true ∧ d 11 = true) ∧ ((d 12 = false → Below wr.heap.size wr W) ∧ (d 12 = true → Stored g P (R q) wr W)))
        rfl (by kernel_rfl) ?_ ?_ ?_
      · exact ⟨by simp, by simp, by simp, by simp, by simp, by simp, by simp, by simp, by simp, by simp, by simp, by simp, by simp, by simp, by simp, by simp, by simp, by simp, by simp, ⟨fun _ => (Below.refl _ _).drew, fun h => by simp at h⟩⟩
      · refine ⟨?_, ?_, ?_, ?_, ?_, ?_, ?_, ?_, ?_, ?_, ?_, ?_, ?_, trivial⟩
        all_goals
          intro d s W hJ hfr hd hdep
          simp only [List.mem_cons, forall_eq_or_imp, List.not_mem_nil, false_implies, implies_true, and_true, Region.binds] at hdep
          have f1 := hfr 1 (by decide)
          have f2 := hfr 2 (by decide)
          have f4 := hfr 4 (by decide)
          have f5 := hfr 5 (by decide)
          simp at f1 f2 f4 f5 hdep
          obtain ⟨h0, h1, h2, h3, h4, h5, h6, h7, h8, h9, h10, h11, x0, x1, x2, x3, x4, x5, x6, hT⟩ := hJ
          have hT0 := hT
          unfold OpSteps
        · have hl : d 12 = false := by
            cases h : d 12
            · rfl
            · have := x6 h; simp [hd] at this
          replace hT := hT.1 hl
          simp [go_sem, evS, f2]
          exact ⟨fun _ => by simp [sput], fun h => by simpa [sput] using h1 (by simpa [did] using h), fun h => by simpa [sput] using h2 (by simpa [did] using h), fun h => by simpa [sput] using h3 (by simpa [did] using h), fun h => by simpa [sput] using h4 (by simpa [did] using h), fun h => by simpa [sput] using h5 (by simpa [did] using h), fun h => by simpa [sput] using h6 (by simpa [did] using h), fun h => by simpa [sput] using h7 (by simpa [did] using h), fun h => by simpa [sput] using h8 (by simpa [did] using h), fun h => by simpa [sput] using h9 (by simpa [did] using h), fun h => by simpa [sput] using h10 (by simpa [did] using h), fun h => by simpa [sput] using h11 (by simpa [did] using h), fun h => by have := x0 (by simpa [did] using h); simp [did, this], fun h => by have := x1 (by simpa [did] using h); simp [did, this], fun h => by have := x2 (by simpa [did] using h); simp [did, this], fun h => by have := x3 (by simpa [did] using h); simp [did, this], fun h => by have := x4 (by simpa [did] using h); simp [did, this], fun h => by have := x5 (by simpa [did] using h); simp [did, this], fun h => by have := x6 (by simpa [did] using h); simp [did, this], ⟨fun _ => hT, fun h => by simp [did, hl] at h⟩⟩
        · have hl : d 12 = false := by
            cases h : d 12
            · rfl
            · have := x6 h; simp [hd] at this
          replace hT := hT.1 hl
          have g0 := h0 (by simp [hdep])
          obtain ⟨p0, p1, p2, p3⟩ := cells4w (HZ2.out.below hT HZ2.out.lt)
          simp [go_sem, evS, g0, p0, p1, p2, p3]
          exact ⟨fun h => by simpa [sput] using h0 (by simpa [did] using h), fun _ => by simp [sput], fun h => by simpa [sput] using h2 (by simpa [did] using h), fun h => by simpa [sput] using h3 (by simpa [did] using h), fun h => by simpa [sput] using h4 (by simpa [did] using h), fun h => by simpa [sput] using h5 (by simpa [did] using h), fun h => by simpa [sput] using h6 (by simpa [did] using h), fun h => by simpa [sput] using h7 (by simpa [did] using h), fun h => by simpa [sput] using h8 (by simpa [did] using h), fun h => by simpa [sput] using h9 (by simpa [did] using h), fun h => by simpa [sput] using h10 (by simpa [did] using h), fun h => by simpa [sput] using h11 (by simpa [did] using h), fun _ => by simp [did, hdep], fun h => by have := x1 (by simpa [did] using h); simp [did, this], fun h => by have := x2 (by simpa [did] using h); simp [did, this], fun h => by have := x3 (by simpa [did] using h); simp [did, this], fun h => by have := x4 (by simpa [did] using h); simp [did, this], fun h => by have := x5 (by simpa [did] using h); simp [did, this], fun h => by have := x6 (by simpa [did] using h); simp [did, this], ⟨fun _ => hT, fun h => by simp [did, hl] at h⟩⟩
        · have hl : d 12 = false := by
            cases h : d 12
            · rfl
            · have := x6 h; simp [hd] at this
          replace hT := hT.1 hl
          simp [go_sem, evS, f5]
          exact ⟨fun h => by simpa [sput] using h0 (by simpa [did] using h), fun h => by simpa [sput] using h1 (by simpa [did] using h), fun _ => by simp [sput], fun h => by simpa [sput] using h3 (by simpa [did] using h), fun h => by simpa [sput] using h4 (by simpa [did] using h), fun h => by simpa [sput] using h5 (by simpa [did] using h), fun h => by simpa [sput] using h6 (by simpa [did] using h), fun h => by simpa [sput] using h7 (by simpa [did] using h), fun h => by simpa [sput] using h8 (by simpa [did] using h), fun h => by simpa [sput] using h9 (by simpa [did] using h), fun h => by simpa [sput] using h10 (by simpa [did] using h), fun h => by simpa [sput] using h11 (by simpa [did] using h), fun h => by have := x0 (by simpa [did] using h); simp [did, this], fun h => by have := x1 (by simpa [did] using h); simp [did, this], fun h => by have := x2 (by simpa [did] using h); simp [did, this], fun h => by have := x3 (by simpa [did] using h); simp [did, this], fun h => by have := x4 (by simpa [did] using h); simp [did, this], fun h => by have := x5 (by simpa [did] using h); simp [did, this], fun h => by have := x6 (by simpa [did] using h); simp [did, this], ⟨fun _ => hT, fun h => by simp [did, hl] at h⟩⟩
        · have hl : d 12 = false := by
            cases h : d 12
            · rfl
            · have := x6 h; simp [hd] at this
          replace hT := hT.1 hl
          simp [go_sem, evS, f1]
          exact ⟨fun h => by simpa [sput] using h0 (by simpa [did] using h), fun h => by simpa [sput] using h1 (by simpa [did] using h), fun h => by simpa [sput] using h2 (by simpa [did] using h), fun _ => by simp [sput], fun h => by simpa [sput] using h4 (by simpa [did] using h), fun h => by simpa [sput] using h5 (by simpa [did] using h), fun h => by simpa [sput] using h6 (by simpa [did] using h), fun h => by simpa [sput] using h7 (by simpa [did] using h), fun h => by simpa [sput] using h8 (by simpa [did] using h), fun h => by simpa [sput] using h9 (by simpa [did] using h), fun h => by simpa [sput] using h10 (by simpa [did] using h), fun h => by simpa [sput] using h11 (by simpa [did] using h), fun h => by have := x0 (by simpa [did] using h); simp [did, this], fun h => by have := x1 (by simpa [did] using h); simp [did, this], fun h => by have := x2 (by simpa [did] using h); simp [did, this], fun h => by have := x3 (by simpa [did] using h); simp [did, this], fun h => by have := x4 (by simpa [did] using h); simp [did, this], fun h => by have := x5 (by simpa [did] using h); simp [did, this], fun h => by have := x6 (by simpa [did] using h); simp [did, this], ⟨fun _ => hT, fun h => by simp [did, hl] at h⟩⟩
        · have hl : d 12 = false := by
            cases h : d 12
            · rfl
            · have := x6 h; simp [hd] at this
          replace hT := hT.1 hl
          simp [go_sem, evS, f4]
          exact ⟨fun h => by simpa [sput] using h0 (by simpa [did] using h), fun h => by simpa [sput] using h1 (by simpa [did] using h), fun h => by simpa [sput] using h2 (by simpa [did] using h), fun h => by simpa [sput] using h3 (by simpa [did] using h), fun _ => by simp [sput], fun h => by simpa [sput] using h5 (by simpa [did] using h), fun h => by simpa [sput] using h6 (by simpa [did] using h), fun h => by simpa [sput] using h7 (by simpa [did] using h), fun h => by simpa [sput] using h8 (by simpa [did] using h), fun h => by simpa [sput] using h9 (by simpa [did] using h), fun h => by simpa [sput] using h10 (by simpa [did] using h), fun h => by simpa [sput] using h11 (by simpa [did] using h), fun h => by have := x0 (by simpa [did] using h); simp [did, this], fun h => by have := x1 (by simpa [did] using h); simp [did, this], fun h => by have := x2 (by simpa [did] using h); simp [did, this], fun h => by have := x3 (by simpa [did] using h); simp [did, this], fun h => by have := x4 (by simpa [did] using h); simp [did, this], fun h => by have := x5 (by simpa [did] using h); simp [did, this], fun h => by have := x6 (by simpa [did] using h); simp [did, this], ⟨fun _ => hT, fun h => by simp [did, hl] at h⟩⟩
        · have hl : d 12 = false := by
            cases h : d 12
            · rfl
            · have := x6 h; simp [hd] at this
          replace hT := hT.1 hl
          simp [go_sem, evS, f2]
          exact ⟨fun h => by simpa [sput] using h0 (by simpa [did] using h), fun h => by simpa [sput] using h1 (by simpa [did] using h), fun h => by simpa [sput] using h2 (by simpa [did] using h), fun h => by simpa [sput] using h3 (by simpa [did] using h), fun h => by simpa [sput] using h4 (by simpa [did] using h), fun _ => by simp [sput], fun h => by simpa [sput] using h6 (by simpa [did] using h), fun h => by simpa [sput] using h7 (by simpa [did] using h), fun h => by simpa [sput] using h8 (by simpa [did] using h), fun h => by simpa [sput] using h9 (by simpa [did] using h), fun h => by simpa [sput] using h10 (by simpa [did] using h), fun h => by simpa [sput] using h11 (by simpa [did] using h), fun h => by have := x0 (by simpa [did] using h); simp [did, this], fun h => by have := x1 (by simpa [did] using h); simp [did, this], fun h => by have := x2 (by simpa [did] using h); simp [did, this], fun h => by have := x3 (by simpa [did] using h); simp [did, this], fun h => by have := x4 (by simpa [did] using h); simp [did, this], fun h => by have := x5 (by simpa [did] using h); simp [did, this], fun h => by have := x6 (by simpa [did] using h); simp [did, this], ⟨fun _ => hT, fun h => by simp [did, hl] at h⟩⟩
        · have hl : d 12 = false := by
            cases h : d 12
            · rfl
            · have := x6 h; simp [hd] at this
          replace hT := hT.1 hl
          have g5 := h5 (by simp [hdep])
          obtain ⟨p0, p1, p2, p3⟩ := cells4w (HZ2.out.below hT HZ2.out.lt)
          simp [go_sem, evS, g5, p0, p1, p2, p3]
          exact ⟨fun h => by simpa [sput] using h0 (by simpa [did] using h), fun h => by simpa [sput] using h1 (by simpa [did] using h), fun h => by simpa [sput] using h2 (by simpa [did] using h), fun h => by simpa [sput] using h3 (by simpa [did] using h), fun h => by simpa [sput] using h4 (by simpa [did] using h), fun h => by simpa [sput] using h5 (by simpa [did] using h), fun _ => by simp [sput], fun h => by simpa [sput] using h7 (by simpa [did] using h), fun h => by simpa [sput] using h8 (by simpa [did] using h), fun h => by simpa [sput] using h9 (by simpa [did] using h), fun h => by simpa [sput] using h10 (by simpa [did] using h), fun h => by simpa [sput] using h11 (by simpa [did] using h), fun h => by have := x0 (by simpa [did] using h); simp [did, this], fun _ => by simp [did, hdep], fun h => by have := x2 (by simpa [did] using h); simp [did, this], fun h => by have := x3 (by simpa [did] using h); simp [did, this], fun h => by have := x4 (by simpa [did] using h); simp [did, this], fun h => by have := x5 (by simpa [did] using h); simp [did, this], fun h => by have := x6 (by simpa [did] using h); simp [did, this], ⟨fun _ => hT, fun h => by simp [did, hl] at h⟩⟩
        · have hl : d 12 = false := by
            cases h : d 12
            · rfl
            · have := x6 h; simp [hd] at this
          replace hT := hT.1 hl
          simp [go_sem, evS, f5]
          exact ⟨fun h => by simpa [sput] using h0 (by simpa [did] using h), fun h => by simpa [sput] using h1 (by simpa [did] using h), fun h => by simpa [sput] using h2 (by simpa [did] using h), fun h => by simpa [sput] using h3 (by simpa [did] using h), fun h => by simpa [sput] using h4 (by simpa [did] using h), fun h => by simpa [sput] using h5 (by simpa [did] using h), fun h => by simpa [sput] using h6 (by simpa [did] using h), fun _ => by simp [sput], fun h => by simpa [sput] using h8 (by simpa [did] using h), fun h => by simpa [sput] using h9 (by simpa [did] using h), fun h => by simpa [sput] using h10 (by simpa [did] using h), fun h => by simpa [sput] using h11 (by simpa [did] using h), fun h => by have := x0 (by simpa [did] using h); simp [did, this], fun h => by have := x1 (by simpa [did] using h); simp [did, this], fun h => by have := x2 (by simpa [did] using h); simp [did, this], fun h => by have := x3 (by simpa [did] using h); simp [did, this], fun h => by have := x4 (by simpa [did] using h); simp [did, this], fun h => by have := x5 (by simpa [did] using h); simp [did, this], fun h => by have := x6 (by simpa [did] using h); simp [did, this], ⟨fun _ => hT, fun h => by simp [did, hl] at h⟩⟩
        · have hl : d 12 = false := by
            cases h : d 12
            · rfl
            · have := x6 h; simp [hd] at this
          replace hT := hT.1 hl
          have g6 := h6 (by simp [hdep])
          have g7 := h7 (by simp [hdep])
          simp [go_sem, evS, g6, g7, b2]
          exact ⟨fun h => by simpa [sput] using h0 (by simpa [did] using h), fun h => by simpa [sput] using h1 (by simpa [did] using h), fun h => by simpa [sput] using h2 (by simpa [did] using h), fun h => by simpa [sput] using h3 (by simpa [did] using h), fun h => by simpa [sput] using h4 (by simpa [did] using h), fun h => by simpa [sput] using h5 (by simpa [did] using h), fun h => by simpa [sput] using h6 (by simpa [did] using h), fun h => by simpa [sput] using h7 (by simpa [did] using h), fun _ => by simp [sput], fun h => by simpa [sput] using h9 (by simpa [did] using h), fun h => by simpa [sput] using h10 (by simpa [did] using h), fun h => by simpa [sput] using h11 (by simpa [did] using h), fun h => by have := x0 (by simpa [did] using h); simp [did, this], fun h => by have := x1 (by simpa [did] using h); simp [did, this], fun _ => by have y6 := x1 (by simp [hdep]); simp [did, hdep, y6], fun h => by have := x3 (by simpa [did] using h); simp [did, this], fun h => by have := x4 (by simpa [did] using h); simp [did, this], fun h => by have := x5 (by simpa [did] using h); simp [did, this], fun h => by have := x6 (by simpa [did] using h); simp [did, this], ⟨fun _ => hT, fun h => by simp [did, hl] at h⟩⟩
        · have hl : d 12 = false := by
            cases h : d 12
            · rfl
            · have := x6 h; simp [hd] at this
          replace hT := hT.1 hl
          have g8 := h8 (by simp [hdep])
          have pc := cell_below HCe.out hT
          simp [go_sem, evS, g8, pc]
          exact ⟨fun h => by simpa [sput] using h0 (by simpa [did] using h), fun h => by simpa [sput] using h1 (by simpa [did] using h), fun h => by simpa [sput] using h2 (by simpa [did] using h), fun h => by simpa [sput] using h3 (by simpa [did] using h), fun h => by simpa [sput] using h4 (by simpa [did] using h), fun h => by simpa [sput] using h5 (by simpa [did] using h), fun h => by simpa [sput] using h6 (by simpa [did] using h), fun h => by simpa [sput] using h7 (by simpa [did] using h), fun h => by simpa [sput] using h8 (by simpa [did] using h), fun _ => by simp [sput], fun h => by simpa [sput] using h10 (by simpa [did] using h), fun h => by simpa [sput] using h11 (by simpa [did] using h), fun h => by have := x0 (by simpa [did] using h); simp [did, this], fun h => by have := x1 (by simpa [did] using h); simp [did, this], fun h => by have := x2 (by simpa [did] using h); simp [did, this], fun _ => by have y8 := x2 (by simp [hdep]); simp [did, hdep, y8], fun h => by have := x4 (by simpa [did] using h); simp [did, this], fun h => by have := x5 (by simpa [did] using h); simp [did, this], fun h => by have := x6 (by simpa [did] using h); simp [did, this], ⟨fun _ => hT, fun h => by simp [did, hl] at h⟩⟩
        · have hl : d 12 = false := by
            cases h : d 12
            · rfl
            · have := x6 h; simp [hd] at this
          replace hT := hT.1 hl
          have g3 := h3 (by simp [hdep])
          have g4 := h4 (by simp [hdep])
          have g9 := h9 (by simp [hdep])
          simp [go_sem, evS, g3, g4, g9, HF.out]
          refine (HC.out W (HIb.out _ _ HI.out hT)).mono ?_
          rintro e W' ⟨r, rfl, hr, hb⟩
          refine ⟨_, rfl, ?_⟩
          exact ⟨fun h => by simpa [sput] using h0 (by simpa [did] using h), fun h => by simpa [sput] using h1 (by simpa [did] using h), fun h => by simpa [sput] using h2 (by simpa [did] using h), fun h => by simpa [sput] using h3 (by simpa [did] using h), fun h => by simpa [sput] using h4 (by simpa [did] using h), fun h => by simpa [sput] using h5 (by simpa [did] using h), fun h => by simpa [sput] using h6 (by simpa [did] using h), fun h => by simpa [sput] using h7 (by simpa [did] using h), fun h => by simpa [sput] using h8 (by simpa [did] using h), fun h => by simpa [sput] using h9 (by simpa [did] using h), fun _ => ⟨r, by simp [sput], hr⟩, fun h => by simpa [sput] using h11 (by simpa [did] using h), fun h => by have := x0 (by simpa [did] using h); simp [did, this], fun h => by have := x1 (by simpa [did] using h); simp [did, this], fun h => by have := x2 (by simpa [did] using h); simp [did, this], fun h => by have := x3 (by simpa [did] using h); simp [did, this], fun _ => by have y9 := x3 (by simp [hdep]); simp [did, hdep, y9], fun h => by have := x5 (by simpa [did] using h); simp [did, this], fun h => by have := x6 (by simpa [did] using h); simp [did, this], ⟨fun _ => below_nx hT hb, fun h => by simp [did, hl] at h⟩⟩
        · have hl : d 12 = false := by
            cases h : d 12
            · rfl
            · have := x6 h; simp [hd] at this
          replace hT := hT.1 hl
          have g1 := h1 (by simp [hdep])
          have g2 := h2 (by simp [hdep])
          simp [go_sem, evS, g1, g2, b2]
          exact ⟨fun h => by simpa [sput] using h0 (by simpa [did] using h), fun h => by simpa [sput] using h1 (by simpa [did] using h), fun h => by simpa [sput] using h2 (by simpa [did] using h), fun h => by simpa [sput] using h3 (by simpa [did] using h), fun h => by simpa [sput] using h4 (by simpa [did] using h), fun h => by simpa [sput] using h5 (by simpa [did] using h), fun h => by simpa [sput] using h6 (by simpa [did] using h), fun h => by simpa [sput] using h7 (by simpa [did] using h), fun h => by simpa [sput] using h8 (by simpa [did] using h), fun h => by simpa [sput] using h9 (by simpa [did] using h), fun h => by simpa [sput] using h10 (by simpa [did] using h), fun _ => by simp [sput], fun h => by have := x0 (by simpa [did] using h); simp [did, this], fun h => by have := x1 (by simpa [did] using h); simp [did, this], fun h => by have := x2 (by simpa [did] using h); simp [did, this], fun h => by have := x3 (by simpa [did] using h); simp [did, this], fun h => by have := x4 (by simpa [did] using h); simp [did, this], fun _ => by have y1 := x0 (by simp [hdep]); simp [did, hdep, y1], fun h => by have := x6 (by simpa [did] using h); simp [did, this], ⟨fun _ => hT, fun h => by simp [did, hl] at h⟩⟩
        · have g11 := h11 (by simp [hdep])
          have g10 := h10 (by simp [hdep])
          replace hT := hT.1 hd
          obtain ⟨r, gr, hr⟩ := g10
          have hfz := frz_below HFz.out hlt0 hT
          have hcl := cell_below HCe.out hT
          simp [go_sem, evS, g11, gr, hfz, hcl]
          exact ⟨fun h => by simpa [sput] using h0 (by simpa [did] using h), fun h => by simpa [sput] using h1 (by simpa [did] using h), fun h => by simpa [sput] using h2 (by simpa [did] using h), fun h => by simpa [sput] using h3 (by simpa [did] using h), fun h => by simpa [sput] using h4 (by simpa [did] using h), fun h => by simpa [sput] using h5 (by simpa [did] using h), fun h => by simpa [sput] using h6 (by simpa [did] using h), fun h => by simpa [sput] using h7 (by simpa [did] using h), fun h => by simpa [sput] using h8 (by simpa [did] using h), fun h => by simpa [sput] using h9 (by simpa [did] using h), fun h => by simpa [sput] using h10 (by simpa [did] using h), fun h => by simpa [sput] using h11 (by simpa [did] using h), fun h => by have := x0 (by simpa [did] using h); simp [did, this], fun h => by have := x1 (by simpa [did] using h); simp [did, this], fun h => by have := x2 (by simpa [did] using h); simp [did, this], fun h => by have := x3 (by simpa [did] using h); simp [did, this], fun h => by have := x4 (by simpa [did] using h); simp [did, this], fun h => by have := x5 (by simpa [did] using h); simp [did, this], fun _ => by have y10 := x4 (by simp [hdep]); have y11 := x5 (by simp [hdep]); simp [did, hdep, y10, y11], ⟨fun h => by simp [did] at h, fun _ => ⟨W, r, hT, rfl, hr⟩⟩⟩
      intro d s W hJ hd
      obtain ⟨h0, h1, h2, h3, h4, h5, h6, h7, h8, h9, h10, h11, x0, x1, x2, x3, x4, x5, x6, hT⟩ := hJ
      obtain ⟨W', r, hbw, rfl, hr⟩ := hT.2 (hd 12 (by decide))
      have HR := Lib.hid hr
      have HBw := Lib.hid hbw
      clear h0 h1 h2 h3 h4 h5 h6 h7 h8 h9 h10 h11 x0 x1 x2 x3 x4 x5 x6 hT hd hbw hr
      simp [setAll]
      generalize s 14 = s14
      generalize s 15 = s15
      generalize s 16 = s16
      generalize s 17 = s17
      generalize s 18 = s18
      generalize s 19 = s19
      generalize s 20 = s20
      generalize s 21 = s21
      generalize s 22 = s22
      generalize s 23 = s23
      generalize s 24 = s24
      generalize s 25 = s25
      go_wp2_with fail
      go_roundw
      case rel => exact ⟨q + 1, m ++ [r], by omega, by go_num, HDone.out r HR.out W' HBw.out⟩
      case measure => simp [intOf]; omega
    · obtain rfl : q = K := by omega
      have hqc : ¬ (q : Int) < (q : Int) := by omega
      go_wp2_with fail
      go_end0
      obtain ⟨e1, e2, e3, e4, e5, e6⟩ := HH.out
      exact ⟨rfl, m, e1, e2, e3, e4, e5⟩

theorem gvbegin_enters : Enters Try.prog 75 := enters_of Try.func75 (by kernel_rfl) rfl
theorem gvmul_enters : Enters Try.prog 69 := enters_of Try.func69 (by kernel_rfl) rfl
theorem gvbyc_enters : Enters Try.prog 77 := enters_of Try.func77 (by kernel_rfl) rfl

/-- Is it 0? -/
def zB (b : Nat) : Bool := FloatKind.f64.format.order b 0 == some .eq
/-- What a number is begun as. -/
def BegR (b y r : Nat) : Prop := if zB b = true then r = 0 else Comes .mul b y r
def begF (b y : Nat) : Nat := if zB b = true then 0 else fbin .mul b y
theorem BegR.is_ {b y r z : Nat} (hb : b < 18446744073709551616) (h : BegR b y r) (hy : Is y z) : Is r (begF b z) := by
  unfold BegR at h
  unfold begF
  by_cases e : zB b = true
  · rw [if_pos e] at h ⊢; subst h; exact is_zero
  · rw [if_neg e] at h ⊢; exact h.is_ (Is.refl hb) hy
/-- What begin does to a number. -/
theorem gvbegin_one (b y k : Nat) (pa : Nat) (w : World) (ha : w.cell? ⟨pa, 0, none⟩ = some (.float .f64 b)) :
    Calls Try.prog 75 #[.int .i64 (k : Int), .float .f64 y, .pointer (some ⟨pa, 0, none⟩)] w fun e w' => ∃ r, e = .returned (.float .f64 r) ∧ BegR b y r ∧ Below w.heap.size w w' := by
  obtain ⟨z, hz⟩ : ∃ z, zB b = z := ⟨_, rfl⟩
  have HZ := Lib.hid (show ∀ r, (if z = true then r = 0 else Comes .mul b y r) → BegR b y r from fun r h => by unfold BegR; rw [hz]; exact h)
  unfold zB at hz
  cases z
  · go_enter Try.func75, Try.ntmps75
    go_wp2_with fail
    go_ret
    exact ⟨_, rfl, HZ.out _ (by simpa using fres_comes _ _ _ _), below_drewN (Below.refl _ _) _⟩
  · go_enter Try.func75, Try.ntmps75
    go_wp2_with fail
    go_ret
    exact ⟨_, rfl, HZ.out _ (by simp), Below.refl _ _⟩
/-- What Mul makes of two numbers. -/
def MulR (a n f r : Nat) : Prop := ∃ p, Comes .mul a f p ∧ Comes .mul p n r
theorem gvmul_one (a n f : Nat) (pa : Nat) (w : World) (ha : w.cell? ⟨pa, 0, none⟩ = some (.float .f64 a)) :
    Calls Try.prog 69 #[.float .f64 n, .float .f64 f, .pointer (some ⟨pa, 0, none⟩)] w fun e w' => ∃ r, e = .returned (.float .f64 r) ∧ MulR a n f r ∧ Below w.heap.size w w' := by
  go_enter Try.func69, Try.ntmps69
  go_wp2_with fail
  go_ret
  exact ⟨_, rfl, ⟨_, fres_comes _ _ _ _, fres_comes _ _ _ _⟩, below_drewN (Below.refl _ _) _⟩
end Go.Proofs.Ytcdhpoikppfjkaa
