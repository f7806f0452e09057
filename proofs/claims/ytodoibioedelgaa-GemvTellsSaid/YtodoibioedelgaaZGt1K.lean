/-
GemvTells, no error. Conditions: as each says.
-/
import Derived.Test.YtodoibioedelgaaZGvP
set_option linter.unusedVariables false
set_option linter.unusedSimpArgs false
set_option linter.unnecessarySimpa false
namespace Go.Proofs.Ytodoibioedelgaa
open Go.RowKit
attribute [local go_sem ↓] Go.wp_at_zero Go.wp_at_succ

set_option maxRecDepth 100000 in
set_option maxHeartbeats 4000000 in
theorem gemvTells_ok1 (kd : Int) (a b : Nat) (Am : Option Addr) (nm cm : Nat) (lm : List Nat) (Ax : Option Addr) (nx cx : Nat) (lx : List Nat) (A : Option Addr) (n c : Nat) (l : List Nat) (om L ox ix o i K MR MC MX : Nat) (QQ : Nat → Nat → Prop) (QR : List Nat → Nat → Nat → Prop) (r0 c0 : Int) (w : World)
    (hAm : Row w Am (f64s lm)) (hAx : Row w Ax (f64s lx)) (hA : Row w A (f64s l)) (hWm : Wds lm) (hWx : Wds lx) (hW : Wds l) (hlm : lm.length = nm) (hlx : lx.length = nx) (hl : l.length = n) (hnm : nm ≤ 1000) (hnx : nx ≤ 1000) (hn : n ≤ 1000)
    (hG : greatB nm MR MC = false) (hLx : longB nx MX = false) (hLy : longB n K = false) (hn0 : 0 < n) (hrc : (kd = 1 ∧ r0 = MC ∧ c0 = MR) ∨ (kd ≠ 1 ∧ r0 = MR ∧ c0 = MC))
    (hPr0 : kd = 0 → ∀ (W : World) (gw cw gx cx9 : Nat), gx ≠ gw → Own W gw l → Own W gx lx → Calls Try.prog 12 #[.float .f64 a, mat (some ⟨gw, 0, none⟩) n cw om MR MC L, vec (some ⟨gx, 0, none⟩) nx cx9 ox MX ix, .float .f64 b, vec (some ⟨gw, 0, none⟩) n cw o K i] W fun e w' => e = .returned (.int .i64 0) ∧ GvDone QQ l o i K gw W w')
    (hRf0 : kd = 0 → ∀ (W : World) (N gt : Nat) (T : List Nat) (B1 B2 : Option Addr) (d1 d2 : Nat), MR * MC = N → Tab l om MR MC L N T → Row W (some ⟨gt, 0, none⟩) (f64s T) → Row W B1 (f64s (lst lx ox ix MX)) → Row W B2 (f64s (lst l o i K)) → Calls Try.prog 19 #[.float .f64 a, .agg #[.int .i64 (MR : Int), .int .i64 (MC : Int), .slice (some ⟨gt, 0, none⟩) N N], .slice B1 MX d1, .float .f64 b, .slice B2 K d2] W (RetL (QR T) K W))
    (hPr1 : kd = 1 → ∀ (W : World) (gw cw gx cx9 : Nat), gx ≠ gw → Own W gw l → Own W gx lx → Calls Try.prog 13 #[.float .f64 a, mat (some ⟨gw, 0, none⟩) n cw om MR MC L, vec (some ⟨gx, 0, none⟩) nx cx9 ox MX ix, .float .f64 b, vec (some ⟨gw, 0, none⟩) n cw o K i] W fun e w' => e = .returned (.int .i64 0) ∧ GvDone QQ l o i K gw W w')
    (hRf1 : kd = 1 → ∀ (W : World) (N gt : Nat) (T : List Nat) (B1 B2 : Option Addr) (d1 d2 : Nat), MR * MC = N → Tab l om MR MC L N T → Row W (some ⟨gt, 0, none⟩) (f64s T) → Row W B1 (f64s (lst lx ox ix MX)) → Row W B2 (f64s (lst l o i K)) → Calls Try.prog 20 #[.float .f64 a, .agg #[.int .i64 (MR : Int), .int .i64 (MC : Int), .slice (some ⟨gt, 0, none⟩) N N], .slice B1 MX d1, .float .f64 b, .slice B2 K d2] W (RetL (QR T) K W))
    (hPr2 : kd ≠ 0 ∧ kd ≠ 1 → ∀ (W : World) (gw cw gx cx9 : Nat), gx ≠ gw → Own W gw l → Own W gx lx → Calls Try.prog 14 #[mat (some ⟨gw, 0, none⟩) n cw om MR MC L, vec (some ⟨gx, 0, none⟩) nx cx9 ox MX ix, vec (some ⟨gw, 0, none⟩) n cw o K i] W fun e w' => e = .returned (.int .i64 0) ∧ GvDone QQ l o i K gw W w')
    (hRf2 : kd ≠ 0 ∧ kd ≠ 1 → ∀ (W : World) (N gt : Nat) (T : List Nat) (B1 B2 : Option Addr) (d1 d2 : Nat), MR * MC = N → Tab l om MR MC L N T → Row W (some ⟨gt, 0, none⟩) (f64s T) → Row W B1 (f64s (lst lx ox ix MX)) → Row W B2 (f64s (lst l o i K)) → Calls Try.prog 21 #[.agg #[.int .i64 (MR : Int), .int .i64 (MC : Int), .slice (some ⟨gt, 0, none⟩) N N], .slice B1 MX d1, .slice B2 K d2] W (RetL (QR T) K W))
    (hCk : ∀ W, Calls Try.prog 15 #[mat A n c om MR MC L, .int .i64 r0, .int .i64 c0, vec Ax nx cx ox MX ix, vec A n c o K i, .int .i64 1] W fun e w' => e = .returned (.int .i64 0) ∧ Below W.heap.size W w')
    (hFn : ∀ N T, MR * MC = N → Tab l om MR MC L N T → ∀ q r r', q < K → QQ q r → QR T q r' → sameB r r' = true ∧ r < 18446744073709551616 ∧ r' < 18446744073709551616)
    (hKb : K ≤ 60) (hMb : MR ≤ 20 ∧ MC ≤ 20) (hXb : MX ≤ 60) (hi1 : 1 ≤ i) (hr : K = 0 ∨ o + (K - 1) * i < n) (hmr : MR = 0 ∨ MC = 0 ∨ om + (MC - 1) * L + (MR - 1) < n) (hxr : MX = 0 ∨ ox + (MX - 1) * ix < nx) :
    Calls Try.prog 3 #[.int .i64 kd, .float .f64 a, mat Am nm cm om MR MC L, vec Ax nx cx ox MX ix, .float .f64 b, vec A n c o K i, .int .i64 1] w fun e w' => e = .returned (.bool true) ∧ Below w.heap.size w w' := by
  have HGr := Lib.hid (fun W => great_any Am nm cm om MR MC L W)
  have HLx := Lib.hid (fun W => long_any Ax nx cx ox MX ix W)
  have HLy := Lib.hid (fun W => long_any A n c o K i W)
  rw [hG] at HGr
  rw [hLx] at HLx
  rw [hLy] at HLy
  have HCp := Lib.hid (fun W (hb : Below w.heap.size w W) => show Calls Try.prog 9 #[.slice A n c] W fun e w' => ∃ g c', e = .returned (.slice (some ⟨g, 0, none⟩) n c') ∧ Own w' g l ∧ W.heap.size ≤ g ∧ Below W.heap.size W w' from by
    have := rcopy_any A c l W (hA.below hb) (by omega)
    rw [hl] at this
    exact this.mono fun e w' ⟨g, c', e1, e2, e3, _, _, e4⟩ => ⟨g, c', e1, e2, e3, e4⟩)
  have HAp := Lib.hid (fun W (hb : Below w.heap.size w W) => show Calls Try.prog 10 #[mat A n c om MR MC L] W fun e w' => ∃ g c', e = .returned (mat (some ⟨g, 0, none⟩) n c' om MR MC L) ∧ Own w' g l ∧ W.heap.size ≤ g ∧ Below W.heap.size W w' from by
    have := rapart_any A c l om MR MC L W (hA.below hb) (by omega)
    rw [hl] at this
    exact this.mono fun e w' ⟨g, c', e1, e2, e3, _, _, e4⟩ => ⟨g, c', e1, e2, e3, e4⟩)
  have HAl := Lib.hid (fun W (hb : Below w.heap.size w W) => show Calls Try.prog 11 #[vec Ax nx cx ox MX ix] W fun e w' => ∃ g c', e = .returned (vec (some ⟨g, 0, none⟩) nx c' ox MX ix) ∧ Own w' g lx ∧ W.heap.size ≤ g ∧ Below W.heap.size W w' from by
    have := ralone_any Ax cx lx ox MX ix W (hAx.below hb) (by omega)
    rw [hlx] at this
    exact this.mono fun e w' ⟨g, c', e1, e2, e3, _, _, e4⟩ => ⟨g, c', e1, e2, e3, e4⟩)
  have HP0 := Lib.hid hPr0
  have HP1 := Lib.hid hPr1
  have HP2 := Lib.hid hPr2
  have HRc := Lib.hid hrc
  have HCk := Lib.hid hCk
  have HAllm := Lib.hid (fun W (A B : Option Addr) (c d : Nat) (h1 : Row W A (f64s l)) (h2 : Row W B (f64s l)) => show Calls Try.prog 16 #[.slice A n c, .slice B n d] W fun e w' => e = .returned (.bool true) ∧ Below W.heap.size W w' from by
    have := rall_any A B c d l l W hW hW h1 h2 (by omega) (Alike.refl l)
    rw [hl] at this; exact this)
  have HAllx := Lib.hid (fun W (A B : Option Addr) (c d : Nat) (h1 : Row W A (f64s lx)) (h2 : Row W B (f64s lx)) => show Calls Try.prog 16 #[.slice A nx c, .slice B nx d] W fun e w' => e = .returned (.bool true) ∧ Below W.heap.size W w' from by
    have := rall_any A B c d lx lx W hWx hWx h1 h2 (by omega) (Alike.refl lx)
    rw [hlx] at this; exact this)
  have HAlly := Lib.hid (fun W (A B : Option Addr) (c d : Nat) (h1 : Row W A (f64s l)) (h2 : Row W B (f64s l)) => show Calls Try.prog 16 #[.slice A n c, .slice B n d] W fun e w' => e = .returned (.bool true) ∧ Below W.heap.size W w' from by
    have := rall_any A B c d l l W hW hW h1 h2 (by omega) (Alike.refl l)
    rw [hl] at this; exact this)
  have HAm := Lib.hid hA
  have HAx := Lib.hid hAx
  have HAy := Lib.hid hA
  have d1 : decide ((0 : Int) < (n : Int)) = true := by simp; exact hn0
  have d2 : decide (0 < n) = true := by simp; exact hn0
  obtain ⟨N, hN⟩ : ∃ N, MR * MC = N := ⟨_, rfl⟩
  have hN20 : N < 1048576 := by
    have h1 : MR * MC ≤ 20 * 20 := Nat.mul_le_mul hMb.1 hMb.2
    omega
  obtain ⟨X, hX⟩ : ∃ X, lst lx ox ix MX = X := ⟨_, rfl⟩
  obtain ⟨Y, hY⟩ : ∃ Y, lst l o i K = Y := ⟨_, rfl⟩
  rw [hX, hY] at hRf0 hRf1 hRf2
  have HR0 := Lib.hid (fun hc W => hRf0 hc W N)
  have HR1 := Lib.hid (fun hc W => hRf1 hc W N)
  have HR2 := Lib.hid (fun hc W => hRf2 hc W N)
  have HNq := Lib.hid hN
  have HOf := Lib.hid (fun W (hb : Below w.heap.size w W) => show Calls Try.prog 17 #[mat A n c om MR MC L] W fun e w' => ∃ g T, e = .returned (.agg #[.int .i64 (MR : Int), .int .i64 (MC : Int), .slice (some ⟨g, 0, none⟩) N N]) ∧ Tab l om MR MC L N T ∧ Row w' (some ⟨g, 0, none⟩) (f64s T) ∧ W.heap.size ≤ g ∧ Below W.heap.size W w' from
    rof_any A n c l om MR MC L N W (hA.below hb) hl (by omega) hN (by omega) (by omega) (by omega) hmr)
  have HLsx := Lib.hid (fun W (hb : Below w.heap.size w W) => show Calls Try.prog 18 #[vec Ax nx cx ox MX ix] W fun e w' => ∃ B d, e = .returned (.slice B MX d) ∧ Row w' B (f64s X) ∧ Below W.heap.size W w' from by
    rw [← hX]
    exact rlist_any Ax nx cx lx ox MX ix W (hAx.below hb) hlx (by omega) hxr (by omega))
  have HLsy := Lib.hid (fun W (hb : Below w.heap.size w W) => show Calls Try.prog 18 #[vec A n c o K i] W fun e w' => ∃ B d, e = .returned (.slice B K d) ∧ Row w' B (f64s Y) ∧ Below W.heap.size W w' from by
    rw [← hY]
    exact rlist_any A n c l o K i W (hA.below hb) hl (by omega) hr (by omega))
  have HWr := Lib.hid (fun W (hb : Below w.heap.size w W) (B : Option Addr) (d : Nat) (m : List Nat) (hm : m.length = K) (hB : Row W B (f64s m)) => show Calls Try.prog 22 #[vec A n c o K i, .slice B K d] W fun e w' => ∃ g c', e = .returned (.slice (some ⟨g, 0, none⟩) n c') ∧ Own w' g (wrt l o i m K) ∧ W.heap.size ≤ g ∧ Below W.heap.size W w' from
    gv_rwrite_any A n c l o K i B d m W (hA.below hb) hl (by omega) hi1 hr hB hm)
  have HFin := Lib.hid (fun W (A B : Option Addr) (c d : Nat) (T m m' : List Nat) (hT : Tab l om MR MC L N T) (hm : m.length = K) (hR : ∀ q, q < K → QQ q (m.getD q 0)) (hm' : m'.length = K) (hR' : ∀ q, q < K → QR T q (m'.getD q 0)) (h1 : Row W A (f64s (wrt l o i m K))) (h2 : Row W B (f64s (wrt l o i m' K))) =>
    show Calls Try.prog 16 #[.slice A n c, .slice B n d] W fun e w' => e = .returned (.bool true) ∧ Below W.heap.size W w' from by
      have hF := fun q hq => hFn N T hN hT q _ _ hq (hR q hq) (hR' q hq)
      have hal := gv_alike_wrt l o i (m := m) (m' := m') K (fun q hq => (hF q hq).1)
      have := rall_any A B c d _ _ W (gv_wds_wrt hW _ _ _ (fun q hq => (hF q hq).2.1)) (gv_wds_wrt hW _ _ _ (fun q hq => (hF q hq).2.2)) h1 h2 (by rw [wrt_length]; omega) hal
      rw [wrt_length, wrt_length, hl] at this
      exact this)
  clear hAm hAx hA hWm hWx hW hlm hlx hl hnm hnx hn hG hLx hLy hPr0 hPr1 hPr2 hrc hCk hn0 hRf0 hRf1 hRf2 hFn hKb hMb hXb hi1 hr hmr hxr hN hN20 hX hY
  unfold mat vec at *
  go_enter Try.func3, Try.ntmps3
  have Hm0 := Lib.hid (((Blk.new w 25 #[.slice Am nm cm, .int .i64 (om : Int), .int .i64 (MR : Int), .int .i64 (MC : Int), .int .i64 (L : Int)]).alloc (.cells #[.slice Ax nx cx, .int .i64 (ox : Int), .int .i64 (MX : Int), .int .i64 (ix : Int)] 27)).alloc (.cells #[.slice A n c, .int .i64 (o : Int), .int .i64 (K : Int), .int .i64 (i : Int)] 27))
  have Hx0 := Lib.hid ((Blk.new_ (w.alloc (.cells #[.slice Am nm cm, .int .i64 (om : Int), .int .i64 (MR : Int), .int .i64 (MC : Int), .int .i64 (L : Int)] 25)) 27 #[.slice Ax nx cx, .int .i64 (ox : Int), .int .i64 (MX : Int), .int .i64 (ix : Int)] (w.heap.size + 1) (by simp)).alloc (.cells #[.slice A n c, .int .i64 (o : Int), .int .i64 (K : Int), .int .i64 (i : Int)] 27))
  have Hy0 := Lib.hid (Blk.new_ ((w.alloc (.cells #[.slice Am nm cm, .int .i64 (om : Int), .int .i64 (MR : Int), .int .i64 (MC : Int), .int .i64 (L : Int)] 25)).alloc (.cells #[.slice Ax nx cx, .int .i64 (ox : Int), .int .i64 (MX : Int), .int .i64 (ix : Int)] 27)) 27 #[.slice A n c, .int .i64 (o : Int), .int .i64 (K : Int), .int .i64 (i : Int)] (w.heap.size + 1 + 1) (by simp))
  have HB0 := Lib.hid ((((Below.refl w.heap.size w).alloc (Nat.le_refl _) (.cells #[.slice Am nm cm, .int .i64 (om : Int), .int .i64 (MR : Int), .int .i64 (MC : Int), .int .i64 (L : Int)] 25)).alloc (by simp) (.cells #[.slice Ax nx cx, .int .i64 (ox : Int), .int .i64 (MX : Int), .int .i64 (ix : Int)] 27)).alloc (by simp; omega) (.cells #[.slice A n c, .int .i64 (o : Int), .int .i64 (K : Int), .int .i64 (i : Int)] 27))
  obtain ⟨m0, m1, m2, m3, m4⟩ := cells5 Hm0.out
  obtain ⟨x0, x1, x2, x3⟩ := cells4w Hx0.out
  obtain ⟨y0, y1, y2, y3⟩ := cells4w Hy0.out
  go_wp2_with fail
  refine (awake7_any _).mono ?_
  rintro e w1 ⟨rfl, hb⟩
  have Hm1 := Lib.hid (Hm0.out.nxt hb)
  have Hx1 := Lib.hid (Hx0.out.nxt hb)
  have Hy1 := Lib.hid (Hy0.out.nxt hb)
  have HB1 := Lib.hid (below_nx HB0.out hb)
  clear hb
  clear m0 m1 m2 m3 m4 x0 x1 x2 x3 y0 y1 y2 y3
  obtain ⟨m0, m1, m2, m3, m4⟩ := cells5 Hm1.out
  obtain ⟨x0, x1, x2, x3⟩ := cells4w Hx1.out
  obtain ⟨y0, y1, y2, y3⟩ := cells4w Hy1.out
  clear Hm0 Hx0 Hy0 HB0
  go_wp2_with fail
  refine (HGr.out _).mono ?_
  rintro e w2 ⟨rfl, hb⟩
  have Hm2 := Lib.hid (Hm1.out.nxt hb)
  have Hx2 := Lib.hid (Hx1.out.nxt hb)
  have Hy2 := Lib.hid (Hy1.out.nxt hb)
  have HB2 := Lib.hid (below_nx HB1.out hb)
  clear hb
  clear m0 m1 m2 m3 m4 x0 x1 x2 x3 y0 y1 y2 y3
  obtain ⟨m0, m1, m2, m3, m4⟩ := cells5 Hm2.out
  obtain ⟨x0, x1, x2, x3⟩ := cells4w Hx2.out
  obtain ⟨y0, y1, y2, y3⟩ := cells4w Hy2.out
  clear Hm1 Hx1 Hy1 HB1
  go_wp2_with fail
  refine (HLx.out _).mono ?_
  rintro e w3 ⟨rfl, hb⟩
  have Hm3 := Lib.hid (Hm2.out.nxt hb)
  have Hx3 := Lib.hid (Hx2.out.nxt hb)
  have Hy3 := Lib.hid (Hy2.out.nxt hb)
  have HB3 := Lib.hid (below_nx HB2.out hb)
  clear hb
  clear m0 m1 m2 m3 m4 x0 x1 x2 x3 y0 y1 y2 y3
  obtain ⟨m0, m1, m2, m3, m4⟩ := cells5 Hm3.out
  obtain ⟨x0, x1, x2, x3⟩ := cells4w Hx3.out
  obtain ⟨y0, y1, y2, y3⟩ := cells4w Hy3.out
  clear Hm2 Hx2 Hy2 HB2
  go_wp2_with fail
  refine (HLy.out _).mono ?_
  rintro e w4 ⟨rfl, hb⟩
  have Hm4 := Lib.hid (Hm3.out.nxt hb)
  have Hx4 := Lib.hid (Hx3.out.nxt hb)
  have Hy4 := Lib.hid (Hy3.out.nxt hb)
  have HB4 := Lib.hid (below_nx HB3.out hb)
  clear hb
  clear m0 m1 m2 m3 m4 x0 x1 x2 x3 y0 y1 y2 y3
  obtain ⟨m0, m1, m2, m3, m4⟩ := cells5 Hm4.out
  obtain ⟨x0, x1, x2, x3⟩ := cells4w Hx4.out
  obtain ⟨y0, y1, y2, y3⟩ := cells4w Hy4.out
  clear Hm3 Hx3 Hy3 HB3
  obtain ⟨f0, _, _, _, _⟩ := frozen5 Hm4.out
  go_upto_region 8 with fail
  have hb9 : Blk (w4.setCell ⟨w.heap.size, 0, none⟩ (.slice A n c)) (w.heap.size) 25 #[.slice A n c, .int .i64 (om : Int), .int .i64 (MR : Int), .int .i64 (MC : Int), .int .i64 (L : Int)] := by simpa using Hm4.out.set_ 0 (.slice A n c)
  have Hx5 := Lib.hid (Hx4.out.other (p := ⟨w.heap.size, 0, none⟩) ((by first | (simp; done) | (simp; omega))) (.slice A n c))
  have Hy5 := Lib.hid (Hy4.out.other (p := ⟨w.heap.size, 0, none⟩) ((by first | (simp; done) | (simp; omega))) (.slice A n c))
  have Hm5 := Lib.hid hb9
  have HB5 := Lib.hid (HB4.out.setCell (p := ⟨w.heap.size, 0, none⟩) ((by first | (simp; done) | (simp; omega))) (.slice A n c))
  clear m0 m1 m2 m3 m4 x0 x1 x2 x3 y0 y1 y2 y3
  clear hb9 f0
  generalize (w4.setCell ⟨w.heap.size, 0, none⟩ (.slice A n c)) = w4b at *
  obtain ⟨m0, m1, m2, m3, m4⟩ := cells5 Hm5.out
  obtain ⟨x0, x1, x2, x3⟩ := cells4w Hx5.out
  obtain ⟨y0, y1, y2, y3⟩ := cells4w Hy5.out
  clear Hm4 Hx4 Hy4 HB4
  go_wp2_with fail
  refine (HCp.out _ HB5.out).mono ?_
  rintro e w5 ⟨gw, cw, rfl, hOw, hgw, hb⟩
  have HGw := Lib.hid (show w.heap.size + 1 + 1 < gw from by have := Hy5.out.lt; omega)
  have Hm6 := Lib.hid (Hm5.out.nxt hb)
  have Hx6 := Lib.hid (Hx5.out.nxt hb)
  have Hy6 := Lib.hid (Hy5.out.nxt hb)
  have HB6 := Lib.hid (below_nx HB5.out hb)
  clear hb
  clear m0 m1 m2 m3 m4 x0 x1 x2 x3 y0 y1 y2 y3
  obtain ⟨m0, m1, m2, m3, m4⟩ := cells5 Hm6.out
  obtain ⟨x0, x1, x2, x3⟩ := cells4w Hx6.out
  obtain ⟨y0, y1, y2, y3⟩ := cells4w Hy6.out
  clear Hm5 Hx5 Hy5 HB5
  have Hw6 := Lib.hid hOw
  clear hOw hgw
  go_wp2_with fail
  refine wp_region_inv [66, 67, 68, 69, 70, 17, 18, 19] (fun d s W => (d 0 = true → s 66 = .agg #[.slice A n c, .int .i64 (om : Int), .int .i64 (MR : Int), .int .i64 (MC : Int), .int .i64 (L : Int)]) ∧ (d 1 = true → OwM W (s 67) w5.heap.size l n (om : Int) (MR : Int) (MC : Int) (L : Int)) ∧ (d 2 = true → s 68 = .agg #[.slice Ax nx cx, .int .i64 (ox : Int), .int .i64 (MX : Int), .int .i64 (ix : Int)]) ∧ (d 3 = true → OwV W (s 69) w5.heap.size lx nx (ox : Int) (MX : Int) (ix : Int)) ∧ (d 4 = true → s 70 = .agg #[.slice A n c, .int .i64 (o : Int), .int .i64 (K : Int), .int .i64 (i : Int)]) ∧ (d 5 = true → NbM W (s 17) w5.heap.size) ∧ (d 6 = true → NbV W (s 18) w5.heap.size) ∧ (d 7 = true → NbV W (s 19) w5.heap.size) ∧ (d 8 = true → PkM W (s 17) w5.heap.size l n (om : Int) (MR : Int) (MC : Int) (L : Int)) ∧ (d 9 = true → PkV W (s 18) w5.heap.size lx nx (ox : Int) (MX : Int) (ix : Int)) ∧ (d 10 = true → PkZ W (s 19) w5.heap.size A n c (o : Int) (K : Int) (i : Int)) ∧ (d 8 = true → d 5 = true) ∧ (d 9 = true → d 6 = true) ∧ (d 10 = true → d 7 = true) ∧ (d 6 = true → d 7 = true → s 18 ≠ s 19) ∧ Below w5.heap.size w5 W)
    rfl (by kernel_rfl) ?_ ?_ ?_
  · exact ⟨by simp, by simp, by simp, by simp, by simp, by simp, by simp, by simp, by simp, by simp, by simp, by simp, by simp, by simp, by simp, (Below.refl _ _).drew⟩
  · refine ⟨?_, ?_, ?_, ?_, ?_, ?_, ?_, ?_, ?_, ?_, ?_, trivial⟩
    all_goals
      intro d s W hJ hfr hd hdep
      simp only [List.mem_cons, forall_eq_or_imp, List.not_mem_nil, false_implies, implies_true, and_true, Region.binds] at hdep
      have f9 := hfr 9 (by decide)
      have f10 := hfr 10 (by decide)
      have f12 := hfr 12 (by decide)
      simp at f9 f10 f12 hdep
      obtain ⟨h0, h1, h2, h3, h4, h5, h6, h7, h8, h9, h10, x0, x1, x2, x3, hT⟩ := hJ
    · unfold OpSteps
      obtain ⟨p0, p1, p2, p3, p4⟩ := cells5 (Hm6.out.below hT Hm6.out.lt)
      simp [go_sem, evS, f9, p0, p1, p2, p3, p4]
      exact ⟨fun _ => by simp [sput], fun h => by simpa [sput] using h1 (by simpa [did] using h), kpv h2 (by decide) (by decide), fun h => by simpa [sput] using h3 (by simpa [did] using h), kpv h4 (by decide) (by decide), fun h => by simpa [sput] using h5 (by simpa [did] using h), fun h => by simpa [sput] using h6 (by simpa [did] using h), fun h => by simpa [sput] using h7 (by simpa [did] using h), fun h => by simpa [sput] using h8 (by simpa [did] using h), fun h => by simpa [sput] using h9 (by simpa [did] using h), fun h => by simpa [sput] using h10 (by simpa [did] using h), by simpa [sput, did] using x0, by simpa [sput, did] using x1, by simpa [sput, did] using x2, by simpa [sput, did] using x3, hT⟩
    · have g0 := h0 (by simp [hdep])
      unfold OpSteps
      simp [go_sem, evS, g0]
      refine (HAp.out W (below_nx HB6.out hT)).mono ?_
      rintro e W' ⟨g9, c9, rfl, ho, hg, hb⟩
      refine ⟨_, rfl, ?_⟩
      exact ⟨kpv h0 (by decide) (by decide), fun _ => ⟨g9, c9, by simp [sput], ho, Nat.le_trans hT.size hg⟩, kpv h2 (by decide) (by decide), fun h => by simpa [sput] using (h3 (by simpa [did] using h)).below hb, kpv h4 (by decide) (by decide), fun h => by simpa [sput] using (h5 (by simpa [did] using h)).below hb, fun h => by simpa [sput] using (h6 (by simpa [did] using h)).below hb, fun h => by simpa [sput] using (h7 (by simpa [did] using h)).below hb, fun h => by simpa [sput] using (h8 (by simpa [did] using h)).below hb, fun h => by simpa [sput] using (h9 (by simpa [did] using h)).below hb, fun h => by simpa [sput] using (h10 (by simpa [did] using h)).below hb, by simpa [sput, did] using x0, by simpa [sput, did] using x1, by simpa [sput, did] using x2, by simpa [sput, did] using x3, below_nx hT hb⟩
    · unfold OpSteps
      obtain ⟨p0, p1, p2, p3⟩ := cells4w (Hx6.out.below hT Hx6.out.lt)
      simp [go_sem, evS, f10, p0, p1, p2, p3]
      exact ⟨kpv h0 (by decide) (by decide), fun h => by simpa [sput] using h1 (by simpa [did] using h), fun _ => by simp [sput], fun h => by simpa [sput] using h3 (by simpa [did] using h), kpv h4 (by decide) (by decide), fun h => by simpa [sput] using h5 (by simpa [did] using h), fun h => by simpa [sput] using h6 (by simpa [did] using h), fun h => by simpa [sput] using h7 (by simpa [did] using h), fun h => by simpa [sput] using h8 (by simpa [did] using h), fun h => by simpa [sput] using h9 (by simpa [did] using h), fun h => by simpa [sput] using h10 (by simpa [did] using h), by simpa [sput, did] using x0, by simpa [sput, did] using x1, by simpa [sput, did] using x2, by simpa [sput, did] using x3, hT⟩
    · have g2 := h2 (by simp [hdep])
      unfold OpSteps
      simp [go_sem, evS, g2]
      refine (HAl.out W (below_nx HB6.out hT)).mono ?_
      rintro e W' ⟨g9, c9, rfl, ho, hg, hb⟩
      refine ⟨_, rfl, ?_⟩
      exact ⟨kpv h0 (by decide) (by decide), fun h => by simpa [sput] using (h1 (by simpa [did] using h)).below hb, kpv h2 (by decide) (by decide), fun _ => ⟨g9, c9, by simp [sput], ho, Nat.le_trans hT.size hg⟩, kpv h4 (by decide) (by decide), fun h => by simpa [sput] using (h5 (by simpa [did] using h)).below hb, fun h => by simpa [sput] using (h6 (by simpa [did] using h)).below hb, fun h => by simpa [sput] using (h7 (by simpa [did] using h)).below hb, fun h => by simpa [sput] using (h8 (by simpa [did] using h)).below hb, fun h => by simpa [sput] using (h9 (by simpa [did] using h)).below hb, fun h => by simpa [sput] using (h10 (by simpa [did] using h)).below hb, by simpa [sput, did] using x0, by simpa [sput, did] using x1, by simpa [sput, did] using x2, by simpa [sput, did] using x3, below_nx hT hb⟩
    · unfold OpSteps
      obtain ⟨p0, p1, p2, p3⟩ := cells4w (Hy6.out.below hT Hy6.out.lt)
      simp [go_sem, evS, f12, p0, p1, p2, p3]
      exact ⟨kpv h0 (by decide) (by decide), fun h => by simpa [sput] using h1 (by simpa [did] using h), kpv h2 (by decide) (by decide), fun h => by simpa [sput] using h3 (by simpa [did] using h), fun _ => by simp [sput], fun h => by simpa [sput] using h5 (by simpa [did] using h), fun h => by simpa [sput] using h6 (by simpa [did] using h), fun h => by simpa [sput] using h7 (by simpa [did] using h), fun h => by simpa [sput] using h8 (by simpa [did] using h), fun h => by simpa [sput] using h9 (by simpa [did] using h), fun h => by simpa [sput] using h10 (by simpa [did] using h), by simpa [sput, did] using x0, by simpa [sput, did] using x1, by simpa [sput, did] using x2, by simpa [sput, did] using x3, hT⟩
    · unfold OpSteps
      simp [go_sem, evS]
      exact ⟨kpv h0 (by decide) (by decide), fun h => by simpa [sput] using (h1 (by simpa [did] using h)).below below_one, kpv h2 (by decide) (by decide), fun h => by simpa [sput] using (h3 (by simpa [did] using h)).below below_one, kpv h4 (by decide) (by decide), fun _ => ⟨W.heap.size, _, _, _, _, _, by simp [sput], Blk.new W _ _, hT.size⟩, fun h => by simpa [sput] using (h6 (by simpa [did] using h)).below below_one, fun h => by simpa [sput] using (h7 (by simpa [did] using h)).below below_one, fun h => by have := x0 (by simpa [did] using h); simp [hd] at this, fun h => by simpa [sput] using (h9 (by simpa [did] using h)).below below_one, fun h => by simpa [sput] using (h10 (by simpa [did] using h)).below below_one, fun _ => by simp [did], by simpa [sput, did] using x1, by simpa [sput, did] using x2, by simpa [sput, did] using x3, below_al hT⟩
    · unfold OpSteps
      simp [go_sem, evS]
      exact ⟨kpv h0 (by decide) (by decide), fun h => by simpa [sput] using (h1 (by simpa [did] using h)).below below_one, kpv h2 (by decide) (by decide), fun h => by simpa [sput] using (h3 (by simpa [did] using h)).below below_one, kpv h4 (by decide) (by decide), fun h => by simpa [sput] using (h5 (by simpa [did] using h)).below below_one, fun _ => ⟨W.heap.size, _, _, _, _, by simp [sput], Blk.new W _ _, hT.size⟩, fun h => by simpa [sput] using (h7 (by simpa [did] using h)).below below_one, fun h => by simpa [sput] using (h8 (by simpa [did] using h)).below below_one, fun h => by have := x1 (by simpa [did] using h); simp [hd] at this, fun h => by simpa [sput] using (h10 (by simpa [did] using h)).below below_one, by simpa [sput, did] using x0, fun _ => by simp [did], by simpa [sput, did] using x2, fun _ e7 => by have hq := (h7 (by simpa [did] using e7)).new_ne; simp [sput]; exact fun e => hq e.symm, below_al hT⟩
    · unfold OpSteps
      simp [go_sem, evS]
      exact ⟨kpv h0 (by decide) (by decide), fun h => by simpa [sput] using (h1 (by simpa [did] using h)).below below_one, kpv h2 (by decide) (by decide), fun h => by simpa [sput] using (h3 (by simpa [did] using h)).below below_one, kpv h4 (by decide) (by decide), fun h => by simpa [sput] using (h5 (by simpa [did] using h)).below below_one, fun h => by simpa [sput] using (h6 (by simpa [did] using h)).below below_one, fun _ => ⟨W.heap.size, _, _, _, _, by simp [sput], Blk.new W _ _, hT.size⟩, fun h => by simpa [sput] using (h8 (by simpa [did] using h)).below below_one, fun h => by simpa [sput] using (h9 (by simpa [did] using h)).below below_one, fun h => by have := x2 (by simpa [did] using h); simp [hd] at this, by simpa [sput, did] using x0, by simpa [sput, did] using x1, fun _ => by simp [did], fun e6 _ => by have hq := (h6 (by simpa [did] using e6)).new_ne; simp [sput]; exact hq, below_al hT⟩
    · have g5 := h5 (by simp [hdep])
      have g1 := h1 (by simp [hdep])
      unfold OpSteps
      obtain ⟨p9, z0, z1, z2, z3, z4, gp, hB9, hlo⟩ := g5
      obtain ⟨g9, c9, gv, gO, gz⟩ := g1
      obtain ⟨fr0, fr1, fr2, fr3, fr4⟩ := frozen5w hB9
      obtain ⟨k0, k1, k2, k3, k4⟩ := cells5 hB9
      have hfar : ∀ k9, k9 ≠ p9 → _ := fun k9 (hk9 : k9 ≠ p9) => heap_sets5 (w := W) hk9 (.slice (some ⟨g9, 0, none⟩) n c9) (.int .i64 (om : Int)) (.int .i64 (MR : Int)) (.int .i64 (MC : Int)) (.int .i64 (L : Int))
      simp [go_sem, evS, gp, gv, fr0, fr1, fr2, fr3, fr4, k0, k1, k2, k3, k4]
      exact ⟨kpv h0 (by decide) (by decide), fun h => by simpa [sput] using (h1 (by simpa [did] using h)).far hB9 (by decide) hfar, kpv h2 (by decide) (by decide), fun h => by simpa [sput] using (h3 (by simpa [did] using h)).far hB9 (by decide) hfar, kpv h4 (by decide) (by decide), fun h => ⟨p9, _, _, _, _, _, by simpa [sput] using gp, Blk.store5 hB9 _ _ _ _ _, hlo⟩, fun h => by simpa [sput] using (h6 (by simpa [did] using h)).far ((h6 (by simpa [did] using h)).ne_ hB9 (by decide)) hfar, fun h => by simpa [sput] using (h7 (by simpa [did] using h)).far ((h7 (by simpa [did] using h)).ne_ hB9 (by decide)) hfar, fun _ => ⟨p9, g9, c9, by simpa [sput] using gp, Blk.store5 hB9 _ _ _ _ _, own_off gO (own_ne gO hB9 (by decide)) hfar, hlo, gz⟩, fun h => by simpa [sput] using (h9 (by simpa [did] using h)).far hB9 (by decide) ((h6 (x1 (by simpa [did] using h))).ne_ hB9 (by decide)) hfar, fun h => by simpa [sput] using (h10 (by simpa [did] using h)).far ((h7 (x2 (by simpa [did] using h))).ne_ hB9 (by decide)) hfar, fun _ => by simp [did, hdep], by simpa [sput, did] using x1, by simpa [sput, did] using x2, by simpa [sput, did] using x3, below_sets5 hT hlo _ _ _ _ _⟩
    · have g6 := h6 (by simp [hdep])
      have g3 := h3 (by simp [hdep])
      unfold OpSteps
      obtain ⟨p9, z0, z1, z2, z3, gp, hB9, hlo⟩ := g6
      obtain ⟨g9, c9, gv, gO, gz⟩ := g3
      have e6 : d 6 = true := by simp [hdep]
      obtain ⟨fr0, fr1, fr2, fr3⟩ := frozen4w hB9
      obtain ⟨k0, k1, k2, k3⟩ := cells4w hB9
      have hfar : ∀ k9, k9 ≠ p9 → _ := fun k9 (hk9 : k9 ≠ p9) => heap_sets4 (w := W) hk9 (.slice (some ⟨g9, 0, none⟩) nx c9) (.int .i64 (ox : Int)) (.int .i64 (MX : Int)) (.int .i64 (ix : Int))
      simp [go_sem, evS, gp, gv, fr0, fr1, fr2, fr3, k0, k1, k2, k3]
      exact ⟨kpv h0 (by decide) (by decide), fun h => by simpa [sput] using (h1 (by simpa [did] using h)).far hB9 (by decide) hfar, kpv h2 (by decide) (by decide), fun h => by simpa [sput] using (h3 (by simpa [did] using h)).far hB9 (by decide) hfar, kpv h4 (by decide) (by decide), fun h => by simpa [sput] using (h5 (by simpa [did] using h)).far ((h5 (by simpa [did] using h)).ne_ hB9 (by decide)) hfar, fun h => ⟨p9, _, _, _, _, by simpa [sput] using gp, Blk.store4v hB9 _ _ _ _, hlo⟩, fun h => by simpa [sput] using (h7 (by simpa [did] using h)).far (fun e => x3 e6 (by simpa [did] using h) (gp.trans e.symm)) hfar, fun h => by simpa [sput] using (h8 (by simpa [did] using h)).far hB9 (by decide) ((h5 (x0 (by simpa [did] using h))).ne_ hB9 (by decide)) hfar, fun _ => ⟨p9, g9, c9, by simpa [sput] using gp, Blk.store4v hB9 _ _ _ _, own_off gO (own_ne gO hB9 (by decide)) hfar, hlo, gz⟩, fun h => by simpa [sput] using (h10 (by simpa [did] using h)).far (fun e => x3 e6 (x2 (by simpa [did] using h)) (gp.trans e.symm)) hfar, by simpa [sput, did] using x0, fun _ => by simp [did, hdep], by simpa [sput, did] using x2, by simpa [sput, did] using x3, below_sets4 hT hlo _ _ _ _⟩
    · have g7 := h7 (by simp [hdep])
      have g4 := h4 (by simp [hdep])
      unfold OpSteps
      obtain ⟨p9, z0, z1, z2, z3, gp, hB9, hlo⟩ := g7
      have e7 : d 7 = true := by simp [hdep]
      obtain ⟨fr0, fr1, fr2, fr3⟩ := frozen4w hB9
      obtain ⟨k0, k1, k2, k3⟩ := cells4w hB9
      have hfar : ∀ k9, k9 ≠ p9 → _ := fun k9 (hk9 : k9 ≠ p9) => heap_sets4 (w := W) hk9 (.slice A n c) (.int .i64 (o : Int)) (.int .i64 (K : Int)) (.int .i64 (i : Int))
      simp [go_sem, evS, g4, gp, fr0, fr1, fr2, fr3, k0, k1, k2, k3]
      exact ⟨kpv h0 (by decide) (by decide), fun h => by simpa [sput] using (h1 (by simpa [did] using h)).far hB9 (by decide) hfar, kpv h2 (by decide) (by decide), fun h => by simpa [sput] using (h3 (by simpa [did] using h)).far hB9 (by decide) hfar, kpv h4 (by decide) (by decide), fun h => by simpa [sput] using (h5 (by simpa [did] using h)).far ((h5 (by simpa [did] using h)).ne_ hB9 (by decide)) hfar, fun h => by simpa [sput] using (h6 (by simpa [did] using h)).far (fun e => x3 (by simpa [did] using h) e7 (e.trans gp.symm)) hfar, fun h => ⟨p9, _, _, _, _, by simpa [sput] using gp, Blk.store4v hB9 _ _ _ _, hlo⟩, fun h => by simpa [sput] using (h8 (by simpa [did] using h)).far hB9 (by decide) ((h5 (x0 (by simpa [did] using h))).ne_ hB9 (by decide)) hfar, fun h => by simpa [sput] using (h9 (by simpa [did] using h)).far hB9 (by decide) (fun e => x3 (x1 (by simpa [did] using h)) e7 (e.trans gp.symm)) hfar, fun _ => ⟨p9, by simpa [sput] using gp, Blk.store4v hB9 _ _ _ _, hlo⟩, by simpa [sput, did] using x0, by simpa [sput, did] using x1, fun _ => by simp [did, hdep], by simpa [sput, did] using x3, below_sets4 hT hlo _ _ _ _⟩
  intro d s W hJ hd
  obtain ⟨h0, h1, h2, h3, h4, h5, h6, h7, h8, h9, h10, x0, x1, x2, x3, hT⟩ := hJ
  obtain ⟨pp, gm, cm9, hs17, hBp, hOm, hpl, hgl⟩ := h8 (hd 8 (by decide))
  obtain ⟨pq, gx, cx9, hs18, hBq, hOx, hql, hgl2⟩ := h9 (hd 9 (by decide))
  obtain ⟨pz, hs19, hBz, hzl⟩ := h10 (hd 10 (by decide))
  have hqz : pq ≠ pz := fun e => x3 (hd 6 (by decide)) (hd 7 (by decide)) (by rw [hs18, hs19, e])
  have hpq : pp ≠ pq := blk_ne hBp hBq (by decide)
  have hpz : pp ≠ pz := blk_ne hBp hBz (by decide)
  have hb : Below w5.heap.size w5 W := hT
  clear h0 h1 h2 h3 h4 h5 h6 h7 h8 h9 h10 x0 x1 x2 x3 hT hd
  simp [setAll, hs17, hs18, hs19]
  clear hs17 hs18 hs19
  generalize s 66 = s66
  generalize s 67 = s67
  generalize s 68 = s68
  generalize s 69 = s69
  generalize s 70 = s70
  have hgw5 : gw < w5.heap.size := Hw6.out.lt
  have hy5 : w.heap.size + 1 + 1 < w5.heap.size := Hy6.out.lt
  have HNe := Lib.hid (show gm ≠ gw ∧ gx ≠ gw ∧ pq ≠ pz ∧ pp ≠ pq ∧ pp ≠ pz ∧ w.heap.size + 1 + 1 < pp ∧ w.heap.size + 1 + 1 < pq ∧ w.heap.size + 1 + 1 < pz ∧ w.heap.size + 1 + 1 < gw from by have := HGw.out; refine ⟨by omega, by omega, hqz, hpq, hpz, by omega, by omega, by omega, by omega⟩)
  clear hgw5 hy5 hqz hpq hpz hpl hgl hql hgl2 hzl
  generalize hW6 : W = w6 at *
  clear hW6
  have Hm7 := Lib.hid (Hm6.out.nxt hb)
  have Hx7 := Lib.hid (Hx6.out.nxt hb)
  have Hy7 := Lib.hid (Hy6.out.nxt hb)
  have Hw7 := Lib.hid (Hw6.out.nxt hb)
  have HB7 := Lib.hid (below_nx HB6.out hb)
  clear hb
  clear m0 m1 m2 m3 m4 x0 x1 x2 x3 y0 y1 y2 y3
  obtain ⟨m0, m1, m2, m3, m4⟩ := cells5 Hm7.out
  obtain ⟨x0, x1, x2, x3⟩ := cells4w Hx7.out
  obtain ⟨y0, y1, y2, y3⟩ := cells4w Hy7.out
  clear Hm6 Hx6 Hy6 Hw6 HB6
  have Hp7 := Lib.hid hBp
  have Hq7 := Lib.hid hBq
  have Hz7 := Lib.hid hBz
  have Hu7 := Lib.hid hOm
  have Hv7 := Lib.hid hOx
  clear hBp hBq hBz hOm hOx
  clear m0 m1 m2 m3 m4 x0 x1 x2 x3 y0 y1 y2 y3
  clear HAp HAl HGr HLx HLy HCp HGw
  obtain ⟨m0, m1, m2, m3, m4⟩ := cells5 Hm7.out
  obtain ⟨x0, x1, x2, x3⟩ := cells4w Hx7.out
  obtain ⟨y0, y1, y2, y3⟩ := cells4w Hy7.out
  obtain ⟨p0, p1, p2, p3, p4⟩ := cells5 Hp7.out
  obtain ⟨q0, q1, q2, q3⟩ := cells4w Hq7.out
  obtain ⟨z0, z1, z2, z3⟩ := cells4w Hz7.out
  obtain ⟨f0, _, _, _⟩ := frozen4w Hz7.out
  go_upto_region 15 with fail
  have hb9 : Blk (w6.setCell ⟨pz, 0, none⟩ (.slice (some ⟨gw, 0, none⟩) n cw)) (pz) 27 #[.slice (some ⟨gw, 0, none⟩) n cw, .int .i64 (o : Int), .int .i64 (K : Int), .int .i64 (i : Int)] := by simpa using Hz7.out.set_ 0 (.slice (some ⟨gw, 0, none⟩) n cw)
  have Hm8 := Lib.hid (Hm7.out.other (p := ⟨pz, 0, none⟩) ((by have := HNe.out; simp; omega)) (.slice (some ⟨gw, 0, none⟩) n cw))
  have Hx8 := Lib.hid (Hx7.out.other (p := ⟨pz, 0, none⟩) ((by have := HNe.out; simp; omega)) (.slice (some ⟨gw, 0, none⟩) n cw))
  have Hy8 := Lib.hid (Hy7.out.other (p := ⟨pz, 0, none⟩) ((by have := HNe.out; simp; omega)) (.slice (some ⟨gw, 0, none⟩) n cw))
  have Hp8 := Lib.hid (Hp7.out.other (p := ⟨pz, 0, none⟩) ((by have := HNe.out; simp; omega)) (.slice (some ⟨gw, 0, none⟩) n cw))
  have Hq8 := Lib.hid (Hq7.out.other (p := ⟨pz, 0, none⟩) ((by have := HNe.out; simp; omega)) (.slice (some ⟨gw, 0, none⟩) n cw))
  have Hw8 := Lib.hid (Hw7.out.other (p := ⟨pz, 0, none⟩) (own_ne Hw7.out Hz7.out (by decide)) (.slice (some ⟨gw, 0, none⟩) n cw))
  have Hu8 := Lib.hid (Hu7.out.other (p := ⟨pz, 0, none⟩) (own_ne Hu7.out Hz7.out (by decide)) (.slice (some ⟨gw, 0, none⟩) n cw))
  have Hv8 := Lib.hid (Hv7.out.other (p := ⟨pz, 0, none⟩) (own_ne Hv7.out Hz7.out (by decide)) (.slice (some ⟨gw, 0, none⟩) n cw))
  have Hz8 := Lib.hid hb9
  have HB8 := Lib.hid (HB7.out.setCell (p := ⟨pz, 0, none⟩) ((by have := HNe.out; simp; omega)) (.slice (some ⟨gw, 0, none⟩) n cw))
  clear m0 m1 m2 m3 m4 x0 x1 x2 x3 y0 y1 y2 y3 p0 p1 p2 p3 p4 q0 q1 q2 q3 z0 z1 z2 z3
  clear hb9 f0
  generalize (w6.setCell ⟨pz, 0, none⟩ (.slice (some ⟨gw, 0, none⟩) n cw)) = w7 at *
  obtain ⟨m0, m1, m2, m3, m4⟩ := cells5 Hm8.out
  obtain ⟨x0, x1, x2, x3⟩ := cells4w Hx8.out
  obtain ⟨y0, y1, y2, y3⟩ := cells4w Hy8.out
  obtain ⟨p0, p1, p2, p3, p4⟩ := cells5 Hp8.out
  obtain ⟨q0, q1, q2, q3⟩ := cells4w Hq8.out
  obtain ⟨z0, z1, z2, z3⟩ := cells4w Hz8.out
  clear Hm7 Hx7 Hy7 Hp7 Hq7 Hz7 Hw7 Hu7 Hv7 HB7
  obtain ⟨f0, _, _, _, _⟩ := frozen5 Hp8.out
  go_upto_region 17 with fail
  have hb9 : Blk (w7.setCell ⟨pp, 0, none⟩ (.slice (some ⟨gw, 0, none⟩) n cw)) (pp) 25 #[.slice (some ⟨gw, 0, none⟩) n cw, .int .i64 (om : Int), .int .i64 (MR : Int), .int .i64 (MC : Int), .int .i64 (L : Int)] := by simpa using Hp8.out.set_ 0 (.slice (some ⟨gw, 0, none⟩) n cw)
  have Hm9 := Lib.hid (Hm8.out.other (p := ⟨pp, 0, none⟩) ((by have := HNe.out; simp; omega)) (.slice (some ⟨gw, 0, none⟩) n cw))
  have Hx9 := Lib.hid (Hx8.out.other (p := ⟨pp, 0, none⟩) ((by have := HNe.out; simp; omega)) (.slice (some ⟨gw, 0, none⟩) n cw))
  have Hy9 := Lib.hid (Hy8.out.other (p := ⟨pp, 0, none⟩) ((by have := HNe.out; simp; omega)) (.slice (some ⟨gw, 0, none⟩) n cw))
  have Hq9 := Lib.hid (Hq8.out.other (p := ⟨pp, 0, none⟩) ((by have := HNe.out; simp; omega)) (.slice (some ⟨gw, 0, none⟩) n cw))
  have Hz9 := Lib.hid (Hz8.out.other (p := ⟨pp, 0, none⟩) ((by have := HNe.out; simp; omega)) (.slice (some ⟨gw, 0, none⟩) n cw))
  have Hw9 := Lib.hid (Hw8.out.other (p := ⟨pp, 0, none⟩) (own_ne Hw8.out Hp8.out (by decide)) (.slice (some ⟨gw, 0, none⟩) n cw))
  have Hu9 := Lib.hid (Hu8.out.other (p := ⟨pp, 0, none⟩) (own_ne Hu8.out Hp8.out (by decide)) (.slice (some ⟨gw, 0, none⟩) n cw))
  have Hv9 := Lib.hid (Hv8.out.other (p := ⟨pp, 0, none⟩) (own_ne Hv8.out Hp8.out (by decide)) (.slice (some ⟨gw, 0, none⟩) n cw))
  have Hp9 := Lib.hid hb9
  have HB9 := Lib.hid (HB8.out.setCell (p := ⟨pp, 0, none⟩) ((by have := HNe.out; simp; omega)) (.slice (some ⟨gw, 0, none⟩) n cw))
  clear m0 m1 m2 m3 m4 x0 x1 x2 x3 y0 y1 y2 y3 p0 p1 p2 p3 p4 q0 q1 q2 q3 z0 z1 z2 z3
  clear hb9 f0
  generalize (w7.setCell ⟨pp, 0, none⟩ (.slice (some ⟨gw, 0, none⟩) n cw)) = w8 at *
  obtain ⟨m0, m1, m2, m3, m4⟩ := cells5 Hm9.out
  obtain ⟨x0, x1, x2, x3⟩ := cells4w Hx9.out
  obtain ⟨y0, y1, y2, y3⟩ := cells4w Hy9.out
  obtain ⟨p0, p1, p2, p3, p4⟩ := cells5 Hp9.out
  obtain ⟨q0, q1, q2, q3⟩ := cells4w Hq9.out
  obtain ⟨z0, z1, z2, z3⟩ := cells4w Hz9.out
  clear Hm8 Hx8 Hy8 Hp8 Hq8 Hz8 Hw8 Hu8 Hv8 HB8
  go_wp2_with fail
  refine wp_region_inv [83, 84, 85, 86, 21, 22] (fun d s W => (d 0 = true → s 83 = .pointer (some ⟨w.heap.size, 2, none⟩)) ∧ (d 1 = true → s 84 = .int .i64 (MR : Int)) ∧ (d 2 = true → s 85 = .pointer (some ⟨w.heap.size, 3, none⟩)) ∧ (d 3 = true → s 86 = .int .i64 (MC : Int)) ∧ (d 4 = true → s 21 = .int .i64 (MR : Int)) ∧ (d 5 = true → s 22 = .int .i64 (MC : Int)) ∧ Below w8.heap.size w8 W)
    rfl (by kernel_rfl) ?_ ?_ ?_
  · exact ⟨by simp, by simp, by simp, by simp, by simp, by simp, (Below.refl _ _).drew⟩
  · refine ⟨?_, ?_, ?_, ?_, ?_, ?_, trivial⟩
    all_goals
      intro d s W hJ hfr hd hdep
      simp only [List.mem_cons, forall_eq_or_imp, List.not_mem_nil, false_implies, implies_true, and_true, Region.binds] at hdep
      have f9 := hfr 9 (by decide)
      simp at f9 hdep
      obtain ⟨h0, h1, h2, h3, h4, h5, hT⟩ := hJ
    · unfold OpSteps
      simp [go_sem, evS, f9]
      exact ⟨fun _ => by simp [sput], kpv h1 (by decide) (by decide), kpv h2 (by decide) (by decide), kpv h3 (by decide) (by decide), kpv h4 (by decide) (by decide), kpv h5 (by decide) (by decide), hT⟩
    · have gr0 := h0 (by simp [hdep])
      unfold OpSteps
      obtain ⟨p0, p1, p2, p3, p4⟩ := cells5 (Hm9.out.below hT Hm9.out.lt)
      simp [go_sem, evS, gr0, p0, p1, p2, p3, p4]
      exact ⟨kpv h0 (by decide) (by decide), fun _ => by simp [sput], kpv h2 (by decide) (by decide), kpv h3 (by decide) (by decide), kpv h4 (by decide) (by decide), kpv h5 (by decide) (by decide), hT⟩
    · unfold OpSteps
      simp [go_sem, evS, f9]
      exact ⟨kpv h0 (by decide) (by decide), kpv h1 (by decide) (by decide), fun _ => by simp [sput], kpv h3 (by decide) (by decide), kpv h4 (by decide) (by decide), kpv h5 (by decide) (by decide), hT⟩
    · have gr2 := h2 (by simp [hdep])
      unfold OpSteps
      obtain ⟨p0, p1, p2, p3, p4⟩ := cells5 (Hm9.out.below hT Hm9.out.lt)
      simp [go_sem, evS, gr2, p0, p1, p2, p3, p4]
      exact ⟨kpv h0 (by decide) (by decide), kpv h1 (by decide) (by decide), kpv h2 (by decide) (by decide), fun _ => by simp [sput], kpv h4 (by decide) (by decide), kpv h5 (by decide) (by decide), hT⟩
    · have gr1 := h1 (by simp [hdep])
      unfold OpSteps
      simp [go_sem, evS, gr1]
      exact ⟨kpv h0 (by decide) (by decide), kpv h1 (by decide) (by decide), kpv h2 (by decide) (by decide), kpv h3 (by decide) (by decide), fun _ => by simp [sput], kpv h5 (by decide) (by decide), hT⟩
    · have gr3 := h3 (by simp [hdep])
      unfold OpSteps
      simp [go_sem, evS, gr3]
      exact ⟨kpv h0 (by decide) (by decide), kpv h1 (by decide) (by decide), kpv h2 (by decide) (by decide), kpv h3 (by decide) (by decide), kpv h4 (by decide) (by decide), fun _ => by simp [sput], hT⟩
  intro d s W hJ hd
  obtain ⟨h0, h1, h2, h3, h4, h5, hT⟩ := hJ
  have hs21 := h4 (hd 4 (by decide))
  have hs22 := h5 (hd 5 (by decide))
  have hb : Below w8.heap.size w8 W := hT
  clear h0 h1 h2 h3 h4 h5 hT hd
  simp [setAll, hs21, hs22]
  clear hs21 hs22
  generalize s 83 = s83
  generalize s 84 = s84
  generalize s 85 = s85
  generalize s 86 = s86
  generalize W = w9 at *
  have Hm10 := Lib.hid (Hm9.out.nxt hb)
  have Hx10 := Lib.hid (Hx9.out.nxt hb)
  have Hy10 := Lib.hid (Hy9.out.nxt hb)
  have Hp10 := Lib.hid (Hp9.out.nxt hb)
  have Hq10 := Lib.hid (Hq9.out.nxt hb)
  have Hz10 := Lib.hid (Hz9.out.nxt hb)
  have Hw10 := Lib.hid (Hw9.out.nxt hb)
  have Hu10 := Lib.hid (Hu9.out.nxt hb)
  have Hv10 := Lib.hid (Hv9.out.nxt hb)
  have HB10 := Lib.hid (below_nx HB9.out hb)
  clear hb
  clear m0 m1 m2 m3 m4 x0 x1 x2 x3 y0 y1 y2 y3 p0 p1 p2 p3 p4 q0 q1 q2 q3 z0 z1 z2 z3
  obtain ⟨m0, m1, m2, m3, m4⟩ := cells5 Hm10.out
  obtain ⟨x0, x1, x2, x3⟩ := cells4w Hx10.out
  obtain ⟨y0, y1, y2, y3⟩ := cells4w Hy10.out
  obtain ⟨p0, p1, p2, p3, p4⟩ := cells5 Hp10.out
  obtain ⟨q0, q1, q2, q3⟩ := cells4w Hq10.out
  obtain ⟨z0, z1, z2, z3⟩ := cells4w Hz10.out
  clear Hm9 Hx9 Hy9 Hp9 Hq9 Hz9 Hw9 Hu9 Hv9 HB9
  go_upto_block 0 with fail
  go_cut [20, 21, 22] (fun e9 r9 c9 wx => e9 = .int .i64 0 ∧ r9 = .int .i64 r0 ∧ c9 = .int .i64 c0 ∧ GvDone QQ l o i K gw w9 wx)
  case first =>
    by_cases e0 : kd = 0
    · have hrc := HRc.out.resolve_left (fun h => by have := h.1; omega)
      obtain ⟨rfl, rfl⟩ := hrc.2
      have HQ9 := Lib.hid (HP0.out e0)
      subst e0
      go_wp2_with fail
      refine (HQ9.out _ gw cw gx cx9 HNe.out.2.1 Hw10.out Hv10.out).mono ?_
      rintro e wa ⟨rfl, hq9⟩
      go_wp2_with fail
      go_meet
      exact ⟨rfl, rfl, rfl, hq9⟩
    by_cases e1 : kd = 1
    · have hrc := HRc.out.resolve_right (fun h => h.1 e1)
      obtain ⟨rfl, rfl⟩ := hrc.2
      have HQ9 := Lib.hid (HP1.out e1)
      subst e1
      go_wp2_with fail
      refine (HQ9.out _ gw cw gx cx9 HNe.out.2.1 Hw10.out Hv10.out).mono ?_
      rintro e wa ⟨rfl, hq9⟩
      go_wp2_with fail
      go_meet
      exact ⟨rfl, rfl, rfl, hq9⟩
    · have hrc := HRc.out.resolve_left (fun h => e1 h.1)
      obtain ⟨rfl, rfl⟩ := hrc.2
      have f0 : (kd == 0) = false := by simp [e0]
      have f1 : (kd == 1) = false := by simp [e1]
      have HQ9 := Lib.hid (HP2.out ⟨e0, e1⟩)
      go_wp2_with fail
      refine (HQ9.out _ gw cw gx cx9 HNe.out.2.1 Hw10.out Hv10.out).mono ?_
      rintro e wa ⟨rfl, hq9⟩
      go_wp2_with fail
      go_meet
      exact ⟨rfl, rfl, rfl, hq9⟩
  case rest =>
  obtain ⟨rfl, rfl, rfl, m, hm1, hm2, hm3, hc⟩ := hcut
  generalize wc = wa at *
  have Hm11 := Lib.hid (hc.blk (by have := HNe.out; simp; omega) Hm10.out)
  have Hx11 := Lib.hid (hc.blk (by have := HNe.out; simp; omega) Hx10.out)
  have Hy11 := Lib.hid (hc.blk (by have := HNe.out; simp; omega) Hy10.out)
  have Hp11 := Lib.hid (hc.blk (fun h => own_ne Hw10.out Hp10.out (by decide) (List.mem_singleton.1 h).symm) Hp10.out)
  have Hq11 := Lib.hid (hc.blk (fun h => own_ne Hw10.out Hq10.out (by decide) (List.mem_singleton.1 h).symm) Hq10.out)
  have Hz11 := Lib.hid (hc.blk (fun h => own_ne Hw10.out Hz10.out (by decide) (List.mem_singleton.1 h).symm) Hz10.out)
  have Hu11 := Lib.hid (hc.own (fun h => HNe.out.1 (List.mem_singleton.1 h)) Hu10.out)
  have Hv11 := Lib.hid (hc.own (fun h => HNe.out.2.1 (List.mem_singleton.1 h)) Hv10.out)
  have Hw11 := Lib.hid hm3
  have HB11 := Lib.hid (hc.below HB10.out HB10.out.size (fun x hx => by have := HNe.out; simp at hx; omega))
  clear Hm10 Hx10 Hy10 Hp10 Hq10 Hz10 Hw10 Hu10 Hv10 HB10
  clear HP0 HP1 HP2 HRc
  have HM := Lib.hid (And.intro hm1 hm2)
  clear hm1 hm2 hm3 hc
  clear m0 m1 m2 m3 m4 x0 x1 x2 x3 y0 y1 y2 y3 p0 p1 p2 p3 p4 q0 q1 q2 q3 z0 z1 z2 z3
  obtain ⟨m0, m1, m2, m3, m4⟩ := cells5 Hm11.out
  obtain ⟨x0, x1, x2, x3⟩ := cells4w Hx11.out
  obtain ⟨y0, y1, y2, y3⟩ := cells4w Hy11.out
  obtain ⟨p0, p1, p2, p3, p4⟩ := cells5 Hp11.out
  obtain ⟨q0, q1, q2, q3⟩ := cells4w Hq11.out
  obtain ⟨z0, z1, z2, z3⟩ := cells4w Hz11.out
  go_wp2_with fail
  refine (HCk.out _).mono ?_
  rintro e wb ⟨rfl, hb⟩
  have Hm12 := Lib.hid (Hm11.out.nxt hb)
  have Hx12 := Lib.hid (Hx11.out.nxt hb)
  have Hy12 := Lib.hid (Hy11.out.nxt hb)
  have Hp12 := Lib.hid (Hp11.out.nxt hb)
  have Hq12 := Lib.hid (Hq11.out.nxt hb)
  have Hz12 := Lib.hid (Hz11.out.nxt hb)
  have Hw12 := Lib.hid (Hw11.out.nxt hb)
  have Hu12 := Lib.hid (Hu11.out.nxt hb)
  have Hv12 := Lib.hid (Hv11.out.nxt hb)
  have HB12 := Lib.hid (below_nx HB11.out hb)
  clear hb
  clear m0 m1 m2 m3 m4 x0 x1 x2 x3 y0 y1 y2 y3 p0 p1 p2 p3 p4 q0 q1 q2 q3 z0 z1 z2 z3
  obtain ⟨m0, m1, m2, m3, m4⟩ := cells5 Hm12.out
  obtain ⟨x0, x1, x2, x3⟩ := cells4w Hx12.out
  obtain ⟨y0, y1, y2, y3⟩ := cells4w Hy12.out
  obtain ⟨p0, p1, p2, p3, p4⟩ := cells5 Hp12.out
  obtain ⟨q0, q1, q2, q3⟩ := cells4w Hq12.out
  obtain ⟨z0, z1, z2, z3⟩ := cells4w Hz12.out
  clear Hm11 Hx11 Hy11 Hp11 Hq11 Hz11 Hw11 Hu11 Hv11 HB11
  go_wp2_with fail
  refine wp_region_inv [151, 152, 153, 154, 155, 156, 24, 25, 26] (fun d s W => (d 0 = true → s 151 = .agg #[.slice A n c, .int .i64 (om : Int), .int .i64 (MR : Int), .int .i64 (MC : Int), .int .i64 (L : Int)]) ∧ (d 1 = true → TbS W (s 152) (fun T => Tab l om MR MC L N T) MR MC N) ∧ (d 2 = true → s 153 = .agg #[.slice Ax nx cx, .int .i64 (ox : Int), .int .i64 (MX : Int), .int .i64 (ix : Int)]) ∧ (d 3 = true → SlR W (s 154) MX X) ∧ (d 4 = true → s 155 = .agg #[.slice A n c, .int .i64 (o : Int), .int .i64 (K : Int), .int .i64 (i : Int)]) ∧ (d 5 = true → SlR W (s 156) K Y) ∧ (d 6 = true → (d 7 = false → NbT W (s 24) wb.heap.size)) ∧ (d 7 = true → PkT W (s 24) wb.heap.size (fun T => Tab l om MR MC L N T) MR MC N) ∧ (d 8 = true → SlR W (s 25) MX X) ∧ (d 9 = true → SlR W (s 26) K Y) ∧ (d 7 = true → d 6 = true) ∧ Below wb.heap.size wb W)
    rfl (by kernel_rfl) ?_ ?_ ?_
  · exact ⟨by simp, by simp, by simp, by simp, by simp, by simp, by simp, by simp, by simp, by simp, by simp, (Below.refl _ _).drew⟩
  · refine ⟨?_, ?_, ?_, ?_, ?_, ?_, ?_, ?_, ?_, ?_, trivial⟩
    all_goals
      intro d s W hJ hfr hd hdep
      simp only [List.mem_cons, forall_eq_or_imp, List.not_mem_nil, false_implies, implies_true, and_true, Region.binds] at hdep
      have f9 := hfr 9 (by decide)
      have f10 := hfr 10 (by decide)
      have f12 := hfr 12 (by decide)
      simp at f9 f10 f12 hdep
      obtain ⟨h0, h1, h2, h3, h4, h5, h6, h7, h8, h9, x0, hT⟩ := hJ
    · unfold OpSteps
      obtain ⟨p0, p1, p2, p3, p4⟩ := cells5 (Hm12.out.below hT Hm12.out.lt)
      simp [go_sem, evS, f9, p0, p1, p2, p3, p4]
      exact ⟨fun _ => by simp [sput], fun h => by simpa [sput] using h1 (by simpa [did] using h), kpv h2 (by decide) (by decide), fun h => by simpa [sput] using h3 (by simpa [did] using h), kpv h4 (by decide) (by decide), fun h => by simpa [sput] using h5 (by simpa [did] using h), fun h e => by simpa [sput] using (h6 (by simpa [did] using h) (by simpa [did] using e)), fun h => by simpa [sput] using h7 (by simpa [did] using h), fun h => by simpa [sput] using h8 (by simpa [did] using h), fun h => by simpa [sput] using h9 (by simpa [did] using h), by simpa [sput, did] using x0, hT⟩
    · have g0 := h0 (by simp [hdep])
      unfold OpSteps
      simp [go_sem, evS, g0]
      refine (HOf.out W (below_nx HB12.out hT)).mono ?_
      rintro e W' ⟨g9, T9, rfl, hT9, hr9, _, hb⟩
      refine ⟨_, rfl, ?_⟩
      exact ⟨kpv h0 (by decide) (by decide), fun _ => ⟨g9, T9, by simp [sput], hT9, hr9⟩, kpv h2 (by decide) (by decide), fun h => by simpa [sput] using (h3 (by simpa [did] using h)).below hb, kpv h4 (by decide) (by decide), fun h => by simpa [sput] using (h5 (by simpa [did] using h)).below hb, fun h e => by simpa [sput] using (h6 (by simpa [did] using h) (by simpa [did] using e)).below hb, fun h => by simpa [sput] using (h7 (by simpa [did] using h)).below hb, fun h => by simpa [sput] using (h8 (by simpa [did] using h)).below hb, fun h => by simpa [sput] using (h9 (by simpa [did] using h)).below hb, by simpa [sput, did] using x0, below_nx hT hb⟩
    · unfold OpSteps
      obtain ⟨p0, p1, p2, p3⟩ := cells4w (Hx12.out.below hT Hx12.out.lt)
      simp [go_sem, evS, f10, p0, p1, p2, p3]
      exact ⟨kpv h0 (by decide) (by decide), fun h => by simpa [sput] using h1 (by simpa [did] using h), fun _ => by simp [sput], fun h => by simpa [sput] using h3 (by simpa [did] using h), kpv h4 (by decide) (by decide), fun h => by simpa [sput] using h5 (by simpa [did] using h), fun h e => by simpa [sput] using (h6 (by simpa [did] using h) (by simpa [did] using e)), fun h => by simpa [sput] using h7 (by simpa [did] using h), fun h => by simpa [sput] using h8 (by simpa [did] using h), fun h => by simpa [sput] using h9 (by simpa [did] using h), by simpa [sput, did] using x0, hT⟩
    · have g2 := h2 (by simp [hdep])
      unfold OpSteps
      simp [go_sem, evS, g2]
      refine (HLsx.out W (below_nx HB12.out hT)).mono ?_
      rintro e W' ⟨LA, dA, rfl, hr, hb⟩
      refine ⟨_, rfl, ?_⟩
      exact ⟨kpv h0 (by decide) (by decide), fun h => by simpa [sput] using (h1 (by simpa [did] using h)).below hb, kpv h2 (by decide) (by decide), fun _ => ⟨LA, dA, by simp [sput], hr⟩, kpv h4 (by decide) (by decide), fun h => by simpa [sput] using (h5 (by simpa [did] using h)).below hb, fun h e => by simpa [sput] using (h6 (by simpa [did] using h) (by simpa [did] using e)).below hb, fun h => by simpa [sput] using (h7 (by simpa [did] using h)).below hb, fun h => by simpa [sput] using (h8 (by simpa [did] using h)).below hb, fun h => by simpa [sput] using (h9 (by simpa [did] using h)).below hb, by simpa [sput, did] using x0, below_nx hT hb⟩
    · unfold OpSteps
      obtain ⟨p0, p1, p2, p3⟩ := cells4w (Hy12.out.below hT Hy12.out.lt)
      simp [go_sem, evS, f12, p0, p1, p2, p3]
      exact ⟨kpv h0 (by decide) (by decide), fun h => by simpa [sput] using h1 (by simpa [did] using h), kpv h2 (by decide) (by decide), fun h => by simpa [sput] using h3 (by simpa [did] using h), fun _ => by simp [sput], fun h => by simpa [sput] using h5 (by simpa [did] using h), fun h e => by simpa [sput] using (h6 (by simpa [did] using h) (by simpa [did] using e)), fun h => by simpa [sput] using h7 (by simpa [did] using h), fun h => by simpa [sput] using h8 (by simpa [did] using h), fun h => by simpa [sput] using h9 (by simpa [did] using h), by simpa [sput, did] using x0, hT⟩
    · have g4 := h4 (by simp [hdep])
      unfold OpSteps
      simp [go_sem, evS, g4]
      refine (HLsy.out W (below_nx HB12.out hT)).mono ?_
      rintro e W' ⟨LA, dA, rfl, hr, hb⟩
      refine ⟨_, rfl, ?_⟩
      exact ⟨kpv h0 (by decide) (by decide), fun h => by simpa [sput] using (h1 (by simpa [did] using h)).below hb, kpv h2 (by decide) (by decide), fun h => by simpa [sput] using (h3 (by simpa [did] using h)).below hb, kpv h4 (by decide) (by decide), fun _ => ⟨LA, dA, by simp [sput], hr⟩, fun h e => by simpa [sput] using (h6 (by simpa [did] using h) (by simpa [did] using e)).below hb, fun h => by simpa [sput] using (h7 (by simpa [did] using h)).below hb, fun h => by simpa [sput] using (h8 (by simpa [did] using h)).below hb, fun h => by simpa [sput] using (h9 (by simpa [did] using h)).below hb, by simpa [sput, did] using x0, below_nx hT hb⟩
    · unfold OpSteps
      simp [go_sem, evS]
      exact ⟨kpv h0 (by decide) (by decide), fun h => by simpa [sput] using (h1 (by simpa [did] using h)).below below_one, kpv h2 (by decide) (by decide), fun h => by simpa [sput] using (h3 (by simpa [did] using h)).below below_one, kpv h4 (by decide) (by decide), fun h => by simpa [sput] using (h5 (by simpa [did] using h)).below below_one, fun _ => fun _ => ⟨W.heap.size, by simp [sput], Blk.new W _ _, hT.size⟩, fun h => by have := x0 (by simpa [did] using h); simp [hd] at this, fun h => by simpa [sput] using (h8 (by simpa [did] using h)).below below_one, fun h => by simpa [sput] using (h9 (by simpa [did] using h)).below below_one, fun _ => by simp [did], below_al hT⟩
    · have g6 := h6 (by simp [hdep])
      have g1 := h1 (by simp [hdep])
      unfold OpSteps
      obtain ⟨p9, gp, hB9, hlo⟩ := g6 hd
      obtain ⟨g9, T9, gv, gS, gR⟩ := g1
      obtain ⟨fr0, fr1, fr2⟩ := frozen3v hB9
      obtain ⟨k0, k1, k2⟩ := cells3v hB9
      simp [go_sem, evS, gp, gv, fr0, fr1, fr2, k0, k1, k2]
      exact ⟨kpv h0 (by decide) (by decide), fun h => by obtain ⟨a1, a2, a3, a4, a5⟩ := (h1 (by simpa [did] using h)); exact ⟨a1, a2, by simpa [sput] using a3, a4, row_off3 a5 hB9 _ _ _⟩, kpv h2 (by decide) (by decide), fun h => by obtain ⟨a1, a2, a3, a4⟩ := (h3 (by simpa [did] using h)); exact ⟨a1, a2, by simpa [sput] using a3, row_off3 a4 hB9 _ _ _⟩, kpv h4 (by decide) (by decide), fun h => by obtain ⟨a1, a2, a3, a4⟩ := (h5 (by simpa [did] using h)); exact ⟨a1, a2, by simpa [sput] using a3, row_off3 a4 hB9 _ _ _⟩, fun h e => by simp [did] at e, fun _ => ⟨p9, g9, T9, by simpa [sput] using gp, Blk.store3v hB9 _ _ _, gS, row_off3 gR hB9 _ _ _, hlo⟩, fun h => by obtain ⟨a1, a2, a3, a4⟩ := (h8 (by simpa [did] using h)); exact ⟨a1, a2, by simpa [sput] using a3, row_off3 a4 hB9 _ _ _⟩, fun h => by obtain ⟨a1, a2, a3, a4⟩ := (h9 (by simpa [did] using h)); exact ⟨a1, a2, by simpa [sput] using a3, row_off3 a4 hB9 _ _ _⟩, fun _ => by simp [did, hdep], (((hT.setCell (p := ⟨p9, 0, none⟩) hlo _).setCell (p := ⟨p9, 1, none⟩) hlo _).setCell (p := ⟨p9, 2, none⟩) hlo _)⟩
    · have g3 := h3 (by simp [hdep])
      unfold OpSteps
      obtain ⟨a1, a2, a3, a4⟩ := g3
      simp [go_sem, evS, a3]
      exact ⟨kpv h0 (by decide) (by decide), fun h => by simpa [sput] using h1 (by simpa [did] using h), kpv h2 (by decide) (by decide), fun h => by simpa [sput] using h3 (by simpa [did] using h), kpv h4 (by decide) (by decide), fun h => by simpa [sput] using h5 (by simpa [did] using h), fun h e => by simpa [sput] using (h6 (by simpa [did] using h) (by simpa [did] using e)), fun h => by simpa [sput] using h7 (by simpa [did] using h), fun _ => ⟨a1, a2, by simp [sput], a4⟩, fun h => by simpa [sput] using h9 (by simpa [did] using h), by simpa [sput, did] using x0, hT⟩
    · have g5 := h5 (by simp [hdep])
      unfold OpSteps
      obtain ⟨a1, a2, a3, a4⟩ := g5
      simp [go_sem, evS, a3]
      exact ⟨kpv h0 (by decide) (by decide), fun h => by simpa [sput] using h1 (by simpa [did] using h), kpv h2 (by decide) (by decide), fun h => by simpa [sput] using h3 (by simpa [did] using h), kpv h4 (by decide) (by decide), fun h => by simpa [sput] using h5 (by simpa [did] using h), fun h e => by simpa [sput] using (h6 (by simpa [did] using h) (by simpa [did] using e)), fun h => by simpa [sput] using h7 (by simpa [did] using h), fun h => by simpa [sput] using h8 (by simpa [did] using h), fun _ => ⟨a1, a2, by simp [sput], a4⟩, by simpa [sput, did] using x0, hT⟩
  intro d s W hJ hd
  obtain ⟨h0, h1, h2, h3, h4, h5, h6, h7, h8, h9, x0, hT⟩ := hJ
  obtain ⟨pt, gt, T, hs24, hBt, hTT, hRt, hpt⟩ := h7 (hd 7 (by decide))
  obtain ⟨BX, dX, hs25, hRX⟩ := h8 (hd 8 (by decide))
  obtain ⟨BY, dY, hs26, hRY⟩ := h9 (hd 9 (by decide))
  have hb : Below wb.heap.size wb W := hT
  clear h0 h1 h2 h3 h4 h5 h6 h7 h8 h9 x0 hT hd hpt
  simp [setAll, hs24, hs25, hs26]
  clear hs24 hs25 hs26
  generalize s 151 = s151
  generalize s 152 = s152
  generalize s 153 = s153
  generalize s 154 = s154
  generalize s 155 = s155
  generalize s 156 = s156
  generalize W = wcc at *
  have Hm13 := Lib.hid (Hm12.out.nxt hb)
  have Hx13 := Lib.hid (Hx12.out.nxt hb)
  have Hy13 := Lib.hid (Hy12.out.nxt hb)
  have Hp13 := Lib.hid (Hp12.out.nxt hb)
  have Hq13 := Lib.hid (Hq12.out.nxt hb)
  have Hz13 := Lib.hid (Hz12.out.nxt hb)
  have Hw13 := Lib.hid (Hw12.out.nxt hb)
  have Hu13 := Lib.hid (Hu12.out.nxt hb)
  have Hv13 := Lib.hid (Hv12.out.nxt hb)
  have HB13 := Lib.hid (below_nx HB12.out hb)
  clear hb
  clear m0 m1 m2 m3 m4 x0 x1 x2 x3 y0 y1 y2 y3 p0 p1 p2 p3 p4 q0 q1 q2 q3 z0 z1 z2 z3
  obtain ⟨m0, m1, m2, m3, m4⟩ := cells5 Hm13.out
  obtain ⟨x0, x1, x2, x3⟩ := cells4w Hx13.out
  obtain ⟨y0, y1, y2, y3⟩ := cells4w Hy13.out
  obtain ⟨p0, p1, p2, p3, p4⟩ := cells5 Hp13.out
  obtain ⟨q0, q1, q2, q3⟩ := cells4w Hq13.out
  obtain ⟨z0, z1, z2, z3⟩ := cells4w Hz13.out
  clear Hm12 Hx12 Hy12 Hp12 Hq12 Hz12 Hw12 Hu12 Hv12 HB12
  have Ht13 := Lib.hid hBt
  have HTT := Lib.hid hTT
  have Hrt13 := Lib.hid hRt
  have Hrx13 := Lib.hid hRX
  have Hry13 := Lib.hid hRY
  clear hBt hTT hRt hRX hRY
  clear m0 m1 m2 m3 m4 x0 x1 x2 x3 y0 y1 y2 y3 p0 p1 p2 p3 p4 q0 q1 q2 q3 z0 z1 z2 z3
  obtain ⟨m0, m1, m2, m3, m4⟩ := cells5 Hm13.out
  obtain ⟨x0, x1, x2, x3⟩ := cells4w Hx13.out
  obtain ⟨y0, y1, y2, y3⟩ := cells4w Hy13.out
  obtain ⟨p0, p1, p2, p3, p4⟩ := cells5 Hp13.out
  obtain ⟨q0, q1, q2, q3⟩ := cells4w Hq13.out
  obtain ⟨z0, z1, z2, z3⟩ := cells4w Hz13.out
  obtain ⟨t0, t1, t2⟩ := cells3v Ht13.out
  go_upto_block 1 with fail
  go_cut [27] (fun v9 wx => SlM wx v9 K (QR T) ∧ Below wcc.heap.size wcc wx)
  case first =>
    by_cases e0 : kd = 0
    · have HQ9 := Lib.hid (HR0.out e0)
      subst e0
      go_wp2_with fail
      refine (HQ9.out _ _ _ _ _ _ _ HNq.out HTT.out Hrt13.out Hrx13.out Hry13.out).mono ?_
      rintro e wd ⟨Bn, dn, mm, rfl, hq1, hq2, hq3, hq9⟩
      go_wp2_with fail
      go_meet
      exact ⟨⟨mm, hq1, hq2, Bn, dn, rfl, hq3⟩, hq9⟩
    by_cases e1 : kd = 1
    · have HQ9 := Lib.hid (HR1.out e1)
      subst e1
      go_wp2_with fail
      refine (HQ9.out _ _ _ _ _ _ _ HNq.out HTT.out Hrt13.out Hrx13.out Hry13.out).mono ?_
      rintro e wd ⟨Bn, dn, mm, rfl, hq1, hq2, hq3, hq9⟩
      go_wp2_with fail
      go_meet
      exact ⟨⟨mm, hq1, hq2, Bn, dn, rfl, hq3⟩, hq9⟩
    · have f0 : (kd == 0) = false := by simp [e0]
      have f1 : (kd == 1) = false := by simp [e1]
      have HQ9 := Lib.hid (HR2.out ⟨e0, e1⟩)
      go_wp2_with fail
      refine (HQ9.out _ _ _ _ _ _ _ HNq.out HTT.out Hrt13.out Hrx13.out Hry13.out).mono ?_
      rintro e wd ⟨Bn, dn, mm, rfl, hq1, hq2, hq3, hq9⟩
      go_wp2_with fail
      go_meet
      exact ⟨⟨mm, hq1, hq2, Bn, dn, rfl, hq3⟩, hq9⟩
  case rest =>
  obtain ⟨⟨mm, hq1, hq2, Bn, dn, hv9, hq3⟩, hb⟩ := hcut
  subst hv9
  generalize wc = wd at *
  have HM2 := Lib.hid (And.intro hq1 hq2)
  clear hq1 hq2
  have Hm14 := Lib.hid (Hm13.out.nxt hb)
  have Hx14 := Lib.hid (Hx13.out.nxt hb)
  have Hy14 := Lib.hid (Hy13.out.nxt hb)
  have Hp14 := Lib.hid (Hp13.out.nxt hb)
  have Hq14 := Lib.hid (Hq13.out.nxt hb)
  have Hz14 := Lib.hid (Hz13.out.nxt hb)
  have Ht14 := Lib.hid (Ht13.out.nxt hb)
  have Hw14 := Lib.hid (Hw13.out.nxt hb)
  have Hu14 := Lib.hid (Hu13.out.nxt hb)
  have Hv14 := Lib.hid (Hv13.out.nxt hb)
  have Hrt14 := Lib.hid (Hrt13.out.below hb)
  have Hrx14 := Lib.hid (Hrx13.out.below hb)
  have Hry14 := Lib.hid (Hry13.out.below hb)
  have HB14 := Lib.hid (below_nx HB13.out hb)
  clear hb
  clear m0 m1 m2 m3 m4 x0 x1 x2 x3 y0 y1 y2 y3 p0 p1 p2 p3 p4 q0 q1 q2 q3 z0 z1 z2 z3 t0 t1 t2
  obtain ⟨m0, m1, m2, m3, m4⟩ := cells5 Hm14.out
  obtain ⟨x0, x1, x2, x3⟩ := cells4w Hx14.out
  obtain ⟨y0, y1, y2, y3⟩ := cells4w Hy14.out
  obtain ⟨p0, p1, p2, p3, p4⟩ := cells5 Hp14.out
  obtain ⟨q0, q1, q2, q3⟩ := cells4w Hq14.out
  obtain ⟨z0, z1, z2, z3⟩ := cells4w Hz14.out
  obtain ⟨t0, t1, t2⟩ := cells3v Ht14.out
  clear Hm13 Hx13 Hy13 Hp13 Hq13 Hz13 Ht13 Hw13 Hu13 Hv13 Hrt13 Hrx13 Hry13 HB13
  have Hrn14 := Lib.hid hq3
  clear hq3
  clear HR0 HR1 HR2 HNq HOf HLsx HLsy HCk
  go_wp2_with fail
  refine wp_region_invG [178, 179, 180, 181, 182, 183, 184, 185, 186, 187, 188, 189, 190, 191, 192, 193, 194, 195, 196, 197, 198, 199, 200, 201, 202, 203, 204, 14] (fun d s W => (d 0 = true → s 178 = .pointer (some ⟨pz, 0, none⟩)) ∧ (d 1 = true → s 179 = .slice (some ⟨gw, 0, none⟩) n cw) ∧ (d 2 = true → s 180 = .agg #[.slice A n c, .int .i64 (o : Int), .int .i64 (K : Int), .int .i64 (i : Int)]) ∧ (d 3 = true → s 181 = .slice Bn K dn) ∧ (d 4 = true → SlO W (s 182) n (fun M => M = wrt l o i mm K)) ∧ (d 5 = true → s 183 = .bool true) ∧ (d 6 = true → s 184 = .bool true) ∧ (d 7 = true → s 185 = .int .i64 1) ∧ (d 8 = true → s 186 = .bool true) ∧ (d 9 = true → s 187 = .bool true) ∧ (d 10 = true → s 188 = undef) ∧ (d 11 = true → s 189 = undef) ∧ (d 12 = true → s 190 = undef) ∧ (d 13 = true → s 191 = undef) ∧ (d 14 = true → s 192 = undef) ∧ (d 15 = true → s 193 = undef) ∧ (d 16 = true → s 194 = undef) ∧ (d 17 = true → s 195 = undef) ∧ (d 18 = true → s 196 = undef) ∧ (d 19 = true → s 197 = undef) ∧ (d 20 = true → s 198 = undef) ∧ (d 21 = true → s 199 = undef) ∧ (d 22 = true → s 200 = .bool true) ∧ (d 23 = true → s 201 = .bool true) ∧ (d 24 = true → s 202 = .bool true) ∧ (d 25 = true → s 203 = .bool true) ∧ (d 26 = true → s 204 = .bool true) ∧ (d 27 = true → s 14 = .bool true) ∧ Below wd.heap.size wd W)
    rfl (by kernel_rfl) ?_ ?_ ?_
  · exact ⟨by simp, by simp, by simp, by simp, by simp, by simp, by simp, by simp, by simp, by simp, by simp, by simp, by simp, by simp, by simp, by simp, by simp, by simp, by simp, by simp, by simp, by simp, by simp, by simp, by simp, by simp, by simp, by simp, (Below.refl _ _).drew⟩
  · refine ⟨?_, ?_, ?_, ?_, ?_, ?_, ?_, ?_, ?_, ?_, ?_, ?_, ?_, ?_, ?_, ?_, ?_, ?_, ?_, ?_, ?_, ?_, ?_, ?_, ?_, ?_, ?_, ?_, trivial⟩
    all_goals
      intro d s W hJ hfr hd hdep
      simp only [List.mem_cons, forall_eq_or_imp, List.not_mem_nil, false_implies, implies_true, and_true, Region.binds] at hdep
      have f9 := hfr 9 (by decide)
      have f10 := hfr 10 (by decide)
      have f12 := hfr 12 (by decide)
      have f15 := hfr 15 (by decide)
      have f17 := hfr 17 (by decide)
      have f18 := hfr 18 (by decide)
      have f19 := hfr 19 (by decide)
      have f27 := hfr 27 (by decide)
      simp at f9 f10 f12 f15 f17 f18 f19 f27 hdep
      obtain ⟨h0, h1, h2, h3, h4, h5, h6, h7, h8, h9, h10, h11, h12, h13, h14, h15, h16, h17, h18, h19, h20, h21, h22, h23, h24, h25, h26, h27, hT⟩ := hJ
    · refine stepG_plain rfl ?_
      unfold OpSteps
      simp [go_sem, evS, f19]
      exact ⟨fun _ => by simp [sput], kpv h1 (by decide) (by decide), kpv h2 (by decide) (by decide), kpv h3 (by decide) (by decide), fun h => by simpa [sput] using h4 (by simpa [did] using h), kpv h5 (by decide) (by decide), kpv h6 (by decide) (by decide), kpv h7 (by decide) (by decide), kpv h8 (by decide) (by decide), kpv h9 (by decide) (by decide), kpv h10 (by decide) (by decide), kpv h11 (by decide) (by decide), kpv h12 (by decide) (by decide), kpv h13 (by decide) (by decide), kpv h14 (by decide) (by decide), kpv h15 (by decide) (by decide), kpv h16 (by decide) (by decide), kpv h17 (by decide) (by decide), kpv h18 (by decide) (by decide), kpv h19 (by decide) (by decide), kpv h20 (by decide) (by decide), kpv h21 (by decide) (by decide), kpv h22 (by decide) (by decide), kpv h23 (by decide) (by decide), kpv h24 (by decide) (by decide), kpv h25 (by decide) (by decide), kpv h26 (by decide) (by decide), kpv h27 (by decide) (by decide), hT⟩
    · have g0 := h0 (by simp [hdep])
      refine stepG_plain rfl ?_
      unfold OpSteps
      obtain ⟨p0, p1, p2, p3⟩ := cells4w (Hz14.out.below hT Hz14.out.lt)
      simp [go_sem, evS, g0, p0, p1, p2, p3]
      exact ⟨kpv h0 (by decide) (by decide), fun _ => by simp [sput], kpv h2 (by decide) (by decide), kpv h3 (by decide) (by decide), fun h => by simpa [sput] using h4 (by simpa [did] using h), kpv h5 (by decide) (by decide), kpv h6 (by decide) (by decide), kpv h7 (by decide) (by decide), kpv h8 (by decide) (by decide), kpv h9 (by decide) (by decide), kpv h10 (by decide) (by decide), kpv h11 (by decide) (by decide), kpv h12 (by decide) (by decide), kpv h13 (by decide) (by decide), kpv h14 (by decide) (by decide), kpv h15 (by decide) (by decide), kpv h16 (by decide) (by decide), kpv h17 (by decide) (by decide), kpv h18 (by decide) (by decide), kpv h19 (by decide) (by decide), kpv h20 (by decide) (by decide), kpv h21 (by decide) (by decide), kpv h22 (by decide) (by decide), kpv h23 (by decide) (by decide), kpv h24 (by decide) (by decide), kpv h25 (by decide) (by decide), kpv h26 (by decide) (by decide), kpv h27 (by decide) (by decide), hT⟩
    · refine stepG_plain rfl ?_
      unfold OpSteps
      obtain ⟨p0, p1, p2, p3⟩ := cells4w (Hy14.out.below hT Hy14.out.lt)
      simp [go_sem, evS, f12, p0, p1, p2, p3]
      exact ⟨kpv h0 (by decide) (by decide), kpv h1 (by decide) (by decide), fun _ => by simp [sput], kpv h3 (by decide) (by decide), fun h => by simpa [sput] using h4 (by simpa [did] using h), kpv h5 (by decide) (by decide), kpv h6 (by decide) (by decide), kpv h7 (by decide) (by decide), kpv h8 (by decide) (by decide), kpv h9 (by decide) (by decide), kpv h10 (by decide) (by decide), kpv h11 (by decide) (by decide), kpv h12 (by decide) (by decide), kpv h13 (by decide) (by decide), kpv h14 (by decide) (by decide), kpv h15 (by decide) (by decide), kpv h16 (by decide) (by decide), kpv h17 (by decide) (by decide), kpv h18 (by decide) (by decide), kpv h19 (by decide) (by decide), kpv h20 (by decide) (by decide), kpv h21 (by decide) (by decide), kpv h22 (by decide) (by decide), kpv h23 (by decide) (by decide), kpv h24 (by decide) (by decide), kpv h25 (by decide) (by decide), kpv h26 (by decide) (by decide), kpv h27 (by decide) (by decide), hT⟩
    · refine stepG_plain rfl ?_
      unfold OpSteps
      simp [go_sem, evS, f27]
      exact ⟨kpv h0 (by decide) (by decide), kpv h1 (by decide) (by decide), kpv h2 (by decide) (by decide), fun _ => by simp [sput], fun h => by simpa [sput] using h4 (by simpa [did] using h), kpv h5 (by decide) (by decide), kpv h6 (by decide) (by decide), kpv h7 (by decide) (by decide), kpv h8 (by decide) (by decide), kpv h9 (by decide) (by decide), kpv h10 (by decide) (by decide), kpv h11 (by decide) (by decide), kpv h12 (by decide) (by decide), kpv h13 (by decide) (by decide), kpv h14 (by decide) (by decide), kpv h15 (by decide) (by decide), kpv h16 (by decide) (by decide), kpv h17 (by decide) (by decide), kpv h18 (by decide) (by decide), kpv h19 (by decide) (by decide), kpv h20 (by decide) (by decide), kpv h21 (by decide) (by decide), kpv h22 (by decide) (by decide), kpv h23 (by decide) (by decide), kpv h24 (by decide) (by decide), kpv h25 (by decide) (by decide), kpv h26 (by decide) (by decide), kpv h27 (by decide) (by decide), hT⟩
    · have g2 := h2 (by simp [hdep])
      have g3 := h3 (by simp [hdep])
      refine stepG_plain rfl ?_
      unfold OpSteps
      simp [go_sem, evS, g2, g3]
      refine (HWr.out W (below_nx HB14.out hT) Bn dn mm HM2.out.1 (Hrn14.out.below hT)).mono ?_
      rintro e W' ⟨g3, c3, rfl, ho3, _, hb⟩
      refine ⟨_, rfl, ?_⟩
      exact ⟨kpv h0 (by decide) (by decide), kpv h1 (by decide) (by decide), kpv h2 (by decide) (by decide), kpv h3 (by decide) (by decide), fun _ => ⟨g3, c3, _, by simp [sput], rfl, ho3⟩, kpv h5 (by decide) (by decide), kpv h6 (by decide) (by decide), kpv h7 (by decide) (by decide), kpv h8 (by decide) (by decide), kpv h9 (by decide) (by decide), kpv h10 (by decide) (by decide), kpv h11 (by decide) (by decide), kpv h12 (by decide) (by decide), kpv h13 (by decide) (by decide), kpv h14 (by decide) (by decide), kpv h15 (by decide) (by decide), kpv h16 (by decide) (by decide), kpv h17 (by decide) (by decide), kpv h18 (by decide) (by decide), kpv h19 (by decide) (by decide), kpv h20 (by decide) (by decide), kpv h21 (by decide) (by decide), kpv h22 (by decide) (by decide), kpv h23 (by decide) (by decide), kpv h24 (by decide) (by decide), kpv h25 (by decide) (by decide), kpv h26 (by decide) (by decide), kpv h27 (by decide) (by decide), below_nx hT hb⟩
    · have g1 := h1 (by simp [hdep])
      have g4 := h4 (by simp [hdep])
      refine stepG_plain rfl ?_
      unfold OpSteps
      obtain ⟨g3, c3, M, z1, hS, ho3⟩ := g4
      subst hS
      simp [go_sem, evS, g1, z1]
      refine (HFin.out W _ _ _ _ T m mm HTT.out HM.out.1 HM.out.2 HM2.out.1 HM2.out.2 (Hw14.out.nxt hT).row ho3.row).mono ?_
      rintro e W' ⟨rfl, hb⟩
      refine ⟨_, rfl, ?_⟩
      exact ⟨kpv h0 (by decide) (by decide), kpv h1 (by decide) (by decide), kpv h2 (by decide) (by decide), kpv h3 (by decide) (by decide), fun h => by simpa [sput] using (h4 (by simpa [did] using h)).below hb, fun _ => by simp [sput], kpv h6 (by decide) (by decide), kpv h7 (by decide) (by decide), kpv h8 (by decide) (by decide), kpv h9 (by decide) (by decide), kpv h10 (by decide) (by decide), kpv h11 (by decide) (by decide), kpv h12 (by decide) (by decide), kpv h13 (by decide) (by decide), kpv h14 (by decide) (by decide), kpv h15 (by decide) (by decide), kpv h16 (by decide) (by decide), kpv h17 (by decide) (by decide), kpv h18 (by decide) (by decide), kpv h19 (by decide) (by decide), kpv h20 (by decide) (by decide), kpv h21 (by decide) (by decide), kpv h22 (by decide) (by decide), kpv h23 (by decide) (by decide), kpv h24 (by decide) (by decide), kpv h25 (by decide) (by decide), kpv h26 (by decide) (by decide), kpv h27 (by decide) (by decide), below_nx hT hb⟩
    · have g5 := h5 (by simp [hdep])
      refine stepG_plain rfl ?_
      unfold OpSteps
      simp [go_sem, evS, g5]
      exact ⟨kpv h0 (by decide) (by decide), kpv h1 (by decide) (by decide), kpv h2 (by decide) (by decide), kpv h3 (by decide) (by decide), fun h => by simpa [sput] using h4 (by simpa [did] using h), kpv h5 (by decide) (by decide), fun _ => by simp [sput], kpv h7 (by decide) (by decide), kpv h8 (by decide) (by decide), kpv h9 (by decide) (by decide), kpv h10 (by decide) (by decide), kpv h11 (by decide) (by decide), kpv h12 (by decide) (by decide), kpv h13 (by decide) (by decide), kpv h14 (by decide) (by decide), kpv h15 (by decide) (by decide), kpv h16 (by decide) (by decide), kpv h17 (by decide) (by decide), kpv h18 (by decide) (by decide), kpv h19 (by decide) (by decide), kpv h20 (by decide) (by decide), kpv h21 (by decide) (by decide), kpv h22 (by decide) (by decide), kpv h23 (by decide) (by decide), kpv h24 (by decide) (by decide), kpv h25 (by decide) (by decide), kpv h26 (by decide) (by decide), kpv h27 (by decide) (by decide), hT⟩
    · have g6 := h6 (by simp [hdep])
      refine stepG_on 6 184 true rfl rfl g6 ?_
      unfold OpSteps
      simp [go_sem, evS, f15, g6]
      exact ⟨kpv h0 (by decide) (by decide), kpv h1 (by decide) (by decide), kpv h2 (by decide) (by decide), kpv h3 (by decide) (by decide), fun h => by simpa [sput] using h4 (by simpa [did] using h), kpv h5 (by decide) (by decide), kpv h6 (by decide) (by decide), fun _ => by simp [sput], kpv h8 (by decide) (by decide), kpv h9 (by decide) (by decide), kpv h10 (by decide) (by decide), kpv h11 (by decide) (by decide), kpv h12 (by decide) (by decide), kpv h13 (by decide) (by decide), kpv h14 (by decide) (by decide), kpv h15 (by decide) (by decide), kpv h16 (by decide) (by decide), kpv h17 (by decide) (by decide), kpv h18 (by decide) (by decide), kpv h19 (by decide) (by decide), kpv h20 (by decide) (by decide), kpv h21 (by decide) (by decide), kpv h22 (by decide) (by decide), kpv h23 (by decide) (by decide), kpv h24 (by decide) (by decide), kpv h25 (by decide) (by decide), kpv h26 (by decide) (by decide), kpv h27 (by decide) (by decide), hT⟩
    · have g7 := h7 (by simp [hdep])
      have g6 := h6 (by simp [hdep])
      refine stepG_on 6 184 true rfl rfl g6 ?_
      unfold OpSteps
      simp [go_sem, evS, g7, g6]
      exact ⟨kpv h0 (by decide) (by decide), kpv h1 (by decide) (by decide), kpv h2 (by decide) (by decide), kpv h3 (by decide) (by decide), fun h => by simpa [sput] using h4 (by simpa [did] using h), kpv h5 (by decide) (by decide), kpv h6 (by decide) (by decide), kpv h7 (by decide) (by decide), fun _ => by simp [sput], kpv h9 (by decide) (by decide), kpv h10 (by decide) (by decide), kpv h11 (by decide) (by decide), kpv h12 (by decide) (by decide), kpv h13 (by decide) (by decide), kpv h14 (by decide) (by decide), kpv h15 (by decide) (by decide), kpv h16 (by decide) (by decide), kpv h17 (by decide) (by decide), kpv h18 (by decide) (by decide), kpv h19 (by decide) (by decide), kpv h20 (by decide) (by decide), kpv h21 (by decide) (by decide), kpv h22 (by decide) (by decide), kpv h23 (by decide) (by decide), kpv h24 (by decide) (by decide), kpv h25 (by decide) (by decide), kpv h26 (by decide) (by decide), kpv h27 (by decide) (by decide), hT⟩
    · have g8 := h8 (by simp [hdep])
      have g6 := h6 (by simp [hdep])
      refine stepG_on 6 184 true rfl rfl g6 ?_
      unfold OpSteps
      simp [go_sem, evS, g8, g6]
      exact ⟨kpv h0 (by decide) (by decide), kpv h1 (by decide) (by decide), kpv h2 (by decide) (by decide), kpv h3 (by decide) (by decide), fun h => by simpa [sput] using h4 (by simpa [did] using h), kpv h5 (by decide) (by decide), kpv h6 (by decide) (by decide), kpv h7 (by decide) (by decide), kpv h8 (by decide) (by decide), fun _ => by simp [sput], kpv h10 (by decide) (by decide), kpv h11 (by decide) (by decide), kpv h12 (by decide) (by decide), kpv h13 (by decide) (by decide), kpv h14 (by decide) (by decide), kpv h15 (by decide) (by decide), kpv h16 (by decide) (by decide), kpv h17 (by decide) (by decide), kpv h18 (by decide) (by decide), kpv h19 (by decide) (by decide), kpv h20 (by decide) (by decide), kpv h21 (by decide) (by decide), kpv h22 (by decide) (by decide), kpv h23 (by decide) (by decide), kpv h24 (by decide) (by decide), kpv h25 (by decide) (by decide), kpv h26 (by decide) (by decide), kpv h27 (by decide) (by decide), hT⟩
    · have g9 := h9 (by simp [hdep])
      refine stepG_off 9 187 false rfl rfl (by rw [g9]; rfl) ?_
      exact ⟨kpv h0 (by decide) (by decide), kpv h1 (by decide) (by decide), kpv h2 (by decide) (by decide), kpv h3 (by decide) (by decide), fun h => by simpa [sput] using h4 (by simpa [did] using h), kpv h5 (by decide) (by decide), kpv h6 (by decide) (by decide), kpv h7 (by decide) (by decide), kpv h8 (by decide) (by decide), kpv h9 (by decide) (by decide), fun _ => by simp [sput], kpv h11 (by decide) (by decide), kpv h12 (by decide) (by decide), kpv h13 (by decide) (by decide), kpv h14 (by decide) (by decide), kpv h15 (by decide) (by decide), kpv h16 (by decide) (by decide), kpv h17 (by decide) (by decide), kpv h18 (by decide) (by decide), kpv h19 (by decide) (by decide), kpv h20 (by decide) (by decide), kpv h21 (by decide) (by decide), kpv h22 (by decide) (by decide), kpv h23 (by decide) (by decide), kpv h24 (by decide) (by decide), kpv h25 (by decide) (by decide), kpv h26 (by decide) (by decide), kpv h27 (by decide) (by decide), hT⟩
    · have g9 := h9 (by simp [hdep])
      refine stepG_off 9 187 false rfl rfl (by rw [g9]; rfl) ?_
      exact ⟨kpv h0 (by decide) (by decide), kpv h1 (by decide) (by decide), kpv h2 (by decide) (by decide), kpv h3 (by decide) (by decide), fun h => by simpa [sput] using h4 (by simpa [did] using h), kpv h5 (by decide) (by decide), kpv h6 (by decide) (by decide), kpv h7 (by decide) (by decide), kpv h8 (by decide) (by decide), kpv h9 (by decide) (by decide), kpv h10 (by decide) (by decide), fun _ => by simp [sput], kpv h12 (by decide) (by decide), kpv h13 (by decide) (by decide), kpv h14 (by decide) (by decide), kpv h15 (by decide) (by decide), kpv h16 (by decide) (by decide), kpv h17 (by decide) (by decide), kpv h18 (by decide) (by decide), kpv h19 (by decide) (by decide), kpv h20 (by decide) (by decide), kpv h21 (by decide) (by decide), kpv h22 (by decide) (by decide), kpv h23 (by decide) (by decide), kpv h24 (by decide) (by decide), kpv h25 (by decide) (by decide), kpv h26 (by decide) (by decide), kpv h27 (by decide) (by decide), hT⟩
    · have g9 := h9 (by simp [hdep])
      refine stepG_off 9 187 false rfl rfl (by rw [g9]; rfl) ?_
      exact ⟨kpv h0 (by decide) (by decide), kpv h1 (by decide) (by decide), kpv h2 (by decide) (by decide), kpv h3 (by decide) (by decide), fun h => by simpa [sput] using h4 (by simpa [did] using h), kpv h5 (by decide) (by decide), kpv h6 (by decide) (by decide), kpv h7 (by decide) (by decide), kpv h8 (by decide) (by decide), kpv h9 (by decide) (by decide), kpv h10 (by decide) (by decide), kpv h11 (by decide) (by decide), fun _ => by simp [sput], kpv h13 (by decide) (by decide), kpv h14 (by decide) (by decide), kpv h15 (by decide) (by decide), kpv h16 (by decide) (by decide), kpv h17 (by decide) (by decide), kpv h18 (by decide) (by decide), kpv h19 (by decide) (by decide), kpv h20 (by decide) (by decide), kpv h21 (by decide) (by decide), kpv h22 (by decide) (by decide), kpv h23 (by decide) (by decide), kpv h24 (by decide) (by decide), kpv h25 (by decide) (by decide), kpv h26 (by decide) (by decide), kpv h27 (by decide) (by decide), hT⟩
    · have g9 := h9 (by simp [hdep])
      refine stepG_off 9 187 false rfl rfl (by rw [g9]; rfl) ?_
      exact ⟨kpv h0 (by decide) (by decide), kpv h1 (by decide) (by decide), kpv h2 (by decide) (by decide), kpv h3 (by decide) (by decide), fun h => by simpa [sput] using h4 (by simpa [did] using h), kpv h5 (by decide) (by decide), kpv h6 (by decide) (by decide), kpv h7 (by decide) (by decide), kpv h8 (by decide) (by decide), kpv h9 (by decide) (by decide), kpv h10 (by decide) (by decide), kpv h11 (by decide) (by decide), kpv h12 (by decide) (by decide), fun _ => by simp [sput], kpv h14 (by decide) (by decide), kpv h15 (by decide) (by decide), kpv h16 (by decide) (by decide), kpv h17 (by decide) (by decide), kpv h18 (by decide) (by decide), kpv h19 (by decide) (by decide), kpv h20 (by decide) (by decide), kpv h21 (by decide) (by decide), kpv h22 (by decide) (by decide), kpv h23 (by decide) (by decide), kpv h24 (by decide) (by decide), kpv h25 (by decide) (by decide), kpv h26 (by decide) (by decide), kpv h27 (by decide) (by decide), hT⟩
    · have g9 := h9 (by simp [hdep])
      refine stepG_off 9 187 false rfl rfl (by rw [g9]; rfl) ?_
      exact ⟨kpv h0 (by decide) (by decide), kpv h1 (by decide) (by decide), kpv h2 (by decide) (by decide), kpv h3 (by decide) (by decide), fun h => by simpa [sput] using h4 (by simpa [did] using h), kpv h5 (by decide) (by decide), kpv h6 (by decide) (by decide), kpv h7 (by decide) (by decide), kpv h8 (by decide) (by decide), kpv h9 (by decide) (by decide), kpv h10 (by decide) (by decide), kpv h11 (by decide) (by decide), kpv h12 (by decide) (by decide), kpv h13 (by decide) (by decide), fun _ => by simp [sput], kpv h15 (by decide) (by decide), kpv h16 (by decide) (by decide), kpv h17 (by decide) (by decide), kpv h18 (by decide) (by decide), kpv h19 (by decide) (by decide), kpv h20 (by decide) (by decide), kpv h21 (by decide) (by decide), kpv h22 (by decide) (by decide), kpv h23 (by decide) (by decide), kpv h24 (by decide) (by decide), kpv h25 (by decide) (by decide), kpv h26 (by decide) (by decide), kpv h27 (by decide) (by decide), hT⟩
    · have g9 := h9 (by simp [hdep])
      refine stepG_off 9 187 false rfl rfl (by rw [g9]; rfl) ?_
      exact ⟨kpv h0 (by decide) (by decide), kpv h1 (by decide) (by decide), kpv h2 (by decide) (by decide), kpv h3 (by decide) (by decide), fun h => by simpa [sput] using h4 (by simpa [did] using h), kpv h5 (by decide) (by decide), kpv h6 (by decide) (by decide), kpv h7 (by decide) (by decide), kpv h8 (by decide) (by decide), kpv h9 (by decide) (by decide), kpv h10 (by decide) (by decide), kpv h11 (by decide) (by decide), kpv h12 (by decide) (by decide), kpv h13 (by decide) (by decide), kpv h14 (by decide) (by decide), fun _ => by simp [sput], kpv h16 (by decide) (by decide), kpv h17 (by decide) (by decide), kpv h18 (by decide) (by decide), kpv h19 (by decide) (by decide), kpv h20 (by decide) (by decide), kpv h21 (by decide) (by decide), kpv h22 (by decide) (by decide), kpv h23 (by decide) (by decide), kpv h24 (by decide) (by decide), kpv h25 (by decide) (by decide), kpv h26 (by decide) (by decide), kpv h27 (by decide) (by decide), hT⟩
    · have g15 := h15 (by simp [hdep])
      refine stepG_undef 15 193 true rfl rfl g15 ?_
      exact ⟨kpv h0 (by decide) (by decide), kpv h1 (by decide) (by decide), kpv h2 (by decide) (by decide), kpv h3 (by decide) (by decide), fun h => by simpa [sput] using h4 (by simpa [did] using h), kpv h5 (by decide) (by decide), kpv h6 (by decide) (by decide), kpv h7 (by decide) (by decide), kpv h8 (by decide) (by decide), kpv h9 (by decide) (by decide), kpv h10 (by decide) (by decide), kpv h11 (by decide) (by decide), kpv h12 (by decide) (by decide), kpv h13 (by decide) (by decide), kpv h14 (by decide) (by decide), kpv h15 (by decide) (by decide), fun _ => by simp [sput], kpv h17 (by decide) (by decide), kpv h18 (by decide) (by decide), kpv h19 (by decide) (by decide), kpv h20 (by decide) (by decide), kpv h21 (by decide) (by decide), kpv h22 (by decide) (by decide), kpv h23 (by decide) (by decide), kpv h24 (by decide) (by decide), kpv h25 (by decide) (by decide), kpv h26 (by decide) (by decide), kpv h27 (by decide) (by decide), hT⟩
    · have g15 := h15 (by simp [hdep])
      refine stepG_undef 15 193 true rfl rfl g15 ?_
      exact ⟨kpv h0 (by decide) (by decide), kpv h1 (by decide) (by decide), kpv h2 (by decide) (by decide), kpv h3 (by decide) (by decide), fun h => by simpa [sput] using h4 (by simpa [did] using h), kpv h5 (by decide) (by decide), kpv h6 (by decide) (by decide), kpv h7 (by decide) (by decide), kpv h8 (by decide) (by decide), kpv h9 (by decide) (by decide), kpv h10 (by decide) (by decide), kpv h11 (by decide) (by decide), kpv h12 (by decide) (by decide), kpv h13 (by decide) (by decide), kpv h14 (by decide) (by decide), kpv h15 (by decide) (by decide), kpv h16 (by decide) (by decide), fun _ => by simp [sput], kpv h18 (by decide) (by decide), kpv h19 (by decide) (by decide), kpv h20 (by decide) (by decide), kpv h21 (by decide) (by decide), kpv h22 (by decide) (by decide), kpv h23 (by decide) (by decide), kpv h24 (by decide) (by decide), kpv h25 (by decide) (by decide), kpv h26 (by decide) (by decide), kpv h27 (by decide) (by decide), hT⟩
    · have g15 := h15 (by simp [hdep])
      refine stepG_undef 15 193 true rfl rfl g15 ?_
      exact ⟨kpv h0 (by decide) (by decide), kpv h1 (by decide) (by decide), kpv h2 (by decide) (by decide), kpv h3 (by decide) (by decide), fun h => by simpa [sput] using h4 (by simpa [did] using h), kpv h5 (by decide) (by decide), kpv h6 (by decide) (by decide), kpv h7 (by decide) (by decide), kpv h8 (by decide) (by decide), kpv h9 (by decide) (by decide), kpv h10 (by decide) (by decide), kpv h11 (by decide) (by decide), kpv h12 (by decide) (by decide), kpv h13 (by decide) (by decide), kpv h14 (by decide) (by decide), kpv h15 (by decide) (by decide), kpv h16 (by decide) (by decide), kpv h17 (by decide) (by decide), fun _ => by simp [sput], kpv h19 (by decide) (by decide), kpv h20 (by decide) (by decide), kpv h21 (by decide) (by decide), kpv h22 (by decide) (by decide), kpv h23 (by decide) (by decide), kpv h24 (by decide) (by decide), kpv h25 (by decide) (by decide), kpv h26 (by decide) (by decide), kpv h27 (by decide) (by decide), hT⟩
    · have g15 := h15 (by simp [hdep])
      refine stepG_undef 15 193 true rfl rfl g15 ?_
      exact ⟨kpv h0 (by decide) (by decide), kpv h1 (by decide) (by decide), kpv h2 (by decide) (by decide), kpv h3 (by decide) (by decide), fun h => by simpa [sput] using h4 (by simpa [did] using h), kpv h5 (by decide) (by decide), kpv h6 (by decide) (by decide), kpv h7 (by decide) (by decide), kpv h8 (by decide) (by decide), kpv h9 (by decide) (by decide), kpv h10 (by decide) (by decide), kpv h11 (by decide) (by decide), kpv h12 (by decide) (by decide), kpv h13 (by decide) (by decide), kpv h14 (by decide) (by decide), kpv h15 (by decide) (by decide), kpv h16 (by decide) (by decide), kpv h17 (by decide) (by decide), kpv h18 (by decide) (by decide), fun _ => by simp [sput], kpv h20 (by decide) (by decide), kpv h21 (by decide) (by decide), kpv h22 (by decide) (by decide), kpv h23 (by decide) (by decide), kpv h24 (by decide) (by decide), kpv h25 (by decide) (by decide), kpv h26 (by decide) (by decide), kpv h27 (by decide) (by decide), hT⟩
    · have g15 := h15 (by simp [hdep])
      refine stepG_undef 15 193 true rfl rfl g15 ?_
      exact ⟨kpv h0 (by decide) (by decide), kpv h1 (by decide) (by decide), kpv h2 (by decide) (by decide), kpv h3 (by decide) (by decide), fun h => by simpa [sput] using h4 (by simpa [did] using h), kpv h5 (by decide) (by decide), kpv h6 (by decide) (by decide), kpv h7 (by decide) (by decide), kpv h8 (by decide) (by decide), kpv h9 (by decide) (by decide), kpv h10 (by decide) (by decide), kpv h11 (by decide) (by decide), kpv h12 (by decide) (by decide), kpv h13 (by decide) (by decide), kpv h14 (by decide) (by decide), kpv h15 (by decide) (by decide), kpv h16 (by decide) (by decide), kpv h17 (by decide) (by decide), kpv h18 (by decide) (by decide), kpv h19 (by decide) (by decide), fun _ => by simp [sput], kpv h21 (by decide) (by decide), kpv h22 (by decide) (by decide), kpv h23 (by decide) (by decide), kpv h24 (by decide) (by decide), kpv h25 (by decide) (by decide), kpv h26 (by decide) (by decide), kpv h27 (by decide) (by decide), hT⟩
    · have g9 := h9 (by simp [hdep])
      refine stepG_off 9 187 false rfl rfl (by rw [g9]; rfl) ?_
      exact ⟨kpv h0 (by decide) (by decide), kpv h1 (by decide) (by decide), kpv h2 (by decide) (by decide), kpv h3 (by decide) (by decide), fun h => by simpa [sput] using h4 (by simpa [did] using h), kpv h5 (by decide) (by decide), kpv h6 (by decide) (by decide), kpv h7 (by decide) (by decide), kpv h8 (by decide) (by decide), kpv h9 (by decide) (by decide), kpv h10 (by decide) (by decide), kpv h11 (by decide) (by decide), kpv h12 (by decide) (by decide), kpv h13 (by decide) (by decide), kpv h14 (by decide) (by decide), kpv h15 (by decide) (by decide), kpv h16 (by decide) (by decide), kpv h17 (by decide) (by decide), kpv h18 (by decide) (by decide), kpv h19 (by decide) (by decide), kpv h20 (by decide) (by decide), fun _ => by simp [sput], kpv h22 (by decide) (by decide), kpv h23 (by decide) (by decide), kpv h24 (by decide) (by decide), kpv h25 (by decide) (by decide), kpv h26 (by decide) (by decide), kpv h27 (by decide) (by decide), hT⟩
    · have g9 := h9 (by simp [hdep])
      have g21 := h21 (by simp [hdep])
      have g6 := h6 (by simp [hdep])
      refine stepG_on 6 184 true rfl rfl g6 ?_
      unfold OpSteps
      simp [go_sem, evS, g9, g21, g6]
      exact ⟨kpv h0 (by decide) (by decide), kpv h1 (by decide) (by decide), kpv h2 (by decide) (by decide), kpv h3 (by decide) (by decide), fun h => by simpa [sput] using h4 (by simpa [did] using h), kpv h5 (by decide) (by decide), kpv h6 (by decide) (by decide), kpv h7 (by decide) (by decide), kpv h8 (by decide) (by decide), kpv h9 (by decide) (by decide), kpv h10 (by decide) (by decide), kpv h11 (by decide) (by decide), kpv h12 (by decide) (by decide), kpv h13 (by decide) (by decide), kpv h14 (by decide) (by decide), kpv h15 (by decide) (by decide), kpv h16 (by decide) (by decide), kpv h17 (by decide) (by decide), kpv h18 (by decide) (by decide), kpv h19 (by decide) (by decide), kpv h20 (by decide) (by decide), kpv h21 (by decide) (by decide), fun _ => by simp [sput], kpv h23 (by decide) (by decide), kpv h24 (by decide) (by decide), kpv h25 (by decide) (by decide), kpv h26 (by decide) (by decide), kpv h27 (by decide) (by decide), hT⟩
    · have g6 := h6 (by simp [hdep])
      have g22 := h22 (by simp [hdep])
      refine stepG_plain rfl ?_
      unfold OpSteps
      simp [go_sem, evS, g6, g22]
      exact ⟨kpv h0 (by decide) (by decide), kpv h1 (by decide) (by decide), kpv h2 (by decide) (by decide), kpv h3 (by decide) (by decide), fun h => by simpa [sput] using h4 (by simpa [did] using h), kpv h5 (by decide) (by decide), kpv h6 (by decide) (by decide), kpv h7 (by decide) (by decide), kpv h8 (by decide) (by decide), kpv h9 (by decide) (by decide), kpv h10 (by decide) (by decide), kpv h11 (by decide) (by decide), kpv h12 (by decide) (by decide), kpv h13 (by decide) (by decide), kpv h14 (by decide) (by decide), kpv h15 (by decide) (by decide), kpv h16 (by decide) (by decide), kpv h17 (by decide) (by decide), kpv h18 (by decide) (by decide), kpv h19 (by decide) (by decide), kpv h20 (by decide) (by decide), kpv h21 (by decide) (by decide), kpv h22 (by decide) (by decide), fun _ => by simp [sput], kpv h24 (by decide) (by decide), kpv h25 (by decide) (by decide), kpv h26 (by decide) (by decide), kpv h27 (by decide) (by decide), hT⟩
    · have g23 := h23 (by simp [hdep])
      refine stepG_plain rfl ?_
      unfold OpSteps
      simp [go_sem, evS, g23]
      exact ⟨kpv h0 (by decide) (by decide), kpv h1 (by decide) (by decide), kpv h2 (by decide) (by decide), kpv h3 (by decide) (by decide), fun h => by simpa [sput] using h4 (by simpa [did] using h), kpv h5 (by decide) (by decide), kpv h6 (by decide) (by decide), kpv h7 (by decide) (by decide), kpv h8 (by decide) (by decide), kpv h9 (by decide) (by decide), kpv h10 (by decide) (by decide), kpv h11 (by decide) (by decide), kpv h12 (by decide) (by decide), kpv h13 (by decide) (by decide), kpv h14 (by decide) (by decide), kpv h15 (by decide) (by decide), kpv h16 (by decide) (by decide), kpv h17 (by decide) (by decide), kpv h18 (by decide) (by decide), kpv h19 (by decide) (by decide), kpv h20 (by decide) (by decide), kpv h21 (by decide) (by decide), kpv h22 (by decide) (by decide), kpv h23 (by decide) (by decide), fun _ => by simp [sput], kpv h25 (by decide) (by decide), kpv h26 (by decide) (by decide), kpv h27 (by decide) (by decide), hT⟩
    · have g24 := h24 (by simp [hdep])
      refine stepG_on 24 202 true rfl rfl g24 ?_
      unfold OpSteps
      simp [go_sem, evS, g24]
      refine (awake7_any W).mono ?_
      rintro e W' ⟨rfl, hb⟩
      refine ⟨_, rfl, ?_⟩
      exact ⟨kpv h0 (by decide) (by decide), kpv h1 (by decide) (by decide), kpv h2 (by decide) (by decide), kpv h3 (by decide) (by decide), fun h => by simpa [sput] using (h4 (by simpa [did] using h)).below hb, kpv h5 (by decide) (by decide), kpv h6 (by decide) (by decide), kpv h7 (by decide) (by decide), kpv h8 (by decide) (by decide), kpv h9 (by decide) (by decide), kpv h10 (by decide) (by decide), kpv h11 (by decide) (by decide), kpv h12 (by decide) (by decide), kpv h13 (by decide) (by decide), kpv h14 (by decide) (by decide), kpv h15 (by decide) (by decide), kpv h16 (by decide) (by decide), kpv h17 (by decide) (by decide), kpv h18 (by decide) (by decide), kpv h19 (by decide) (by decide), kpv h20 (by decide) (by decide), kpv h21 (by decide) (by decide), kpv h22 (by decide) (by decide), kpv h23 (by decide) (by decide), kpv h24 (by decide) (by decide), fun _ => by simp [sput], kpv h26 (by decide) (by decide), kpv h27 (by decide) (by decide), below_nx hT hb⟩
    · have g24 := h24 (by simp [hdep])
      have g25 := h25 (by simp [hdep])
      refine stepG_plain rfl ?_
      unfold OpSteps
      simp [go_sem, evS, g24, g25]
      exact ⟨kpv h0 (by decide) (by decide), kpv h1 (by decide) (by decide), kpv h2 (by decide) (by decide), kpv h3 (by decide) (by decide), fun h => by simpa [sput] using h4 (by simpa [did] using h), kpv h5 (by decide) (by decide), kpv h6 (by decide) (by decide), kpv h7 (by decide) (by decide), kpv h8 (by decide) (by decide), kpv h9 (by decide) (by decide), kpv h10 (by decide) (by decide), kpv h11 (by decide) (by decide), kpv h12 (by decide) (by decide), kpv h13 (by decide) (by decide), kpv h14 (by decide) (by decide), kpv h15 (by decide) (by decide), kpv h16 (by decide) (by decide), kpv h17 (by decide) (by decide), kpv h18 (by decide) (by decide), kpv h19 (by decide) (by decide), kpv h20 (by decide) (by decide), kpv h21 (by decide) (by decide), kpv h22 (by decide) (by decide), kpv h23 (by decide) (by decide), kpv h24 (by decide) (by decide), kpv h25 (by decide) (by decide), fun _ => by simp [sput], kpv h27 (by decide) (by decide), hT⟩
    · have g26 := h26 (by simp [hdep])
      refine stepG_plain rfl ?_
      unfold OpSteps
      simp [go_sem, evS, g26]
      exact ⟨kpv h0 (by decide) (by decide), kpv h1 (by decide) (by decide), kpv h2 (by decide) (by decide), kpv h3 (by decide) (by decide), fun h => by simpa [sput] using h4 (by simpa [did] using h), kpv h5 (by decide) (by decide), kpv h6 (by decide) (by decide), kpv h7 (by decide) (by decide), kpv h8 (by decide) (by decide), kpv h9 (by decide) (by decide), kpv h10 (by decide) (by decide), kpv h11 (by decide) (by decide), kpv h12 (by decide) (by decide), kpv h13 (by decide) (by decide), kpv h14 (by decide) (by decide), kpv h15 (by decide) (by decide), kpv h16 (by decide) (by decide), kpv h17 (by decide) (by decide), kpv h18 (by decide) (by decide), kpv h19 (by decide) (by decide), kpv h20 (by decide) (by decide), kpv h21 (by decide) (by decide), kpv h22 (by decide) (by decide), kpv h23 (by decide) (by decide), kpv h24 (by decide) (by decide), kpv h25 (by decide) (by decide), kpv h26 (by decide) (by decide), fun _ => by simp [sput], hT⟩
  intro d s W hJ hd
  obtain ⟨h0, h1, h2, h3, h4, h5, h6, h7, h8, h9, h10, h11, h12, h13, h14, h15, h16, h17, h18, h19, h20, h21, h22, h23, h24, h25, h26, h27, hT⟩ := hJ
  have hs14 := h27 (hd 27 (by decide))
  have hb : Below wd.heap.size wd W := hT
  clear h0 h1 h2 h3 h4 h5 h6 h7 h8 h9 h10 h11 h12 h13 h14 h15 h16 h17 h18 h19 h20 h21 h22 h23 h24 h25 h26 h27 hT hd
  simp [setAll, hs14]
  clear hs14
  have Hm15 := Lib.hid (Hm14.out.nxt hb)
  have Hx15 := Lib.hid (Hx14.out.nxt hb)
  have Hy15 := Lib.hid (Hy14.out.nxt hb)
  have Hp15 := Lib.hid (Hp14.out.nxt hb)
  have Hq15 := Lib.hid (Hq14.out.nxt hb)
  have Hz15 := Lib.hid (Hz14.out.nxt hb)
  have Ht15 := Lib.hid (Ht14.out.nxt hb)
  have Hw15 := Lib.hid (Hw14.out.nxt hb)
  have Hu15 := Lib.hid (Hu14.out.nxt hb)
  have Hv15 := Lib.hid (Hv14.out.nxt hb)
  have Hrt15 := Lib.hid (Hrt14.out.below hb)
  have Hrx15 := Lib.hid (Hrx14.out.below hb)
  have Hry15 := Lib.hid (Hry14.out.below hb)
  have Hrn15 := Lib.hid (Hrn14.out.below hb)
  have HB15 := Lib.hid (below_nx HB14.out hb)
  clear hb
  clear m0 m1 m2 m3 m4 x0 x1 x2 x3 y0 y1 y2 y3 p0 p1 p2 p3 p4 q0 q1 q2 q3 z0 z1 z2 z3 t0 t1 t2
  obtain ⟨m0, m1, m2, m3, m4⟩ := cells5 Hm15.out
  obtain ⟨x0, x1, x2, x3⟩ := cells4w Hx15.out
  obtain ⟨y0, y1, y2, y3⟩ := cells4w Hy15.out
  obtain ⟨p0, p1, p2, p3, p4⟩ := cells5 Hp15.out
  obtain ⟨q0, q1, q2, q3⟩ := cells4w Hq15.out
  obtain ⟨z0, z1, z2, z3⟩ := cells4w Hz15.out
  obtain ⟨t0, t1, t2⟩ := cells3v Ht15.out
  clear Hm14 Hx14 Hy14 Hp14 Hq14 Hz14 Ht14 Hw14 Hu14 Hv14 Hrt14 Hrx14 Hry14 Hrn14 HB14
  go_wp2_with fail
  go_ret
  exact ⟨rfl, HB15.out⟩

end Go.Proofs.Ytodoibioedelgaa
